"""Writing and reading the texts of claims."""

from heldproofs.errors import TextError
from heldproofs.sentencetext import format_sentence, read_sentence
from heldproofs.tokens import format_kind, read_brackets, read_name, read_sign, skip_spaces


def format_claim(claim):
    """The text of a claim."""
    holds, goal = claim
    ending = f"|- {format_sentence(goal)}"
    if not holds:
        return ending
    return ", ".join([format_hold(hold) for hold in holds]) + " " + ending


def format_hold(hold):
    """The text of a hold."""
    name, kind, sentence = hold
    if kind == "once":
        return f"{name}: {format_sentence(sentence)}"
    return f"{name} {format_kind(kind)}: {format_sentence(sentence)}"


def parse_claim(text):
    """The claim of a text."""
    holds, at = read_holds(text, skip_spaces(text, 0))
    goal, stop = read_sentence(text, read_sign(text, at, "|-"))
    if stop < len(text):
        raise TextError(stop)
    return tuple(holds), goal


def read_holds(text, start):
    """Read the holds, if there are any; a list of them and the index of what follows."""
    holds = []
    if text[start:start + 1] == "|":
        return holds, start
    hold, at = read_hold(text, start, [])
    holds.append(hold)
    while text[at:at + 1] == ",":
        taken = [earlier[0] for earlier in holds]
        hold, at = read_hold(text, skip_spaces(text, at + 1), taken)
        holds.append(hold)
    return holds, at


def read_hold(text, start, taken):
    """Read a hold whose name is not taken yet; the hold and the index of what follows."""
    at = read_name(text, start)
    name = text[start:at]
    kind = "once"
    at = skip_spaces(text, at)
    if text[at:at + 1] == "[":
        kind, at = read_brackets(text, at)
    at = read_sign(text, at, ":")
    # Only now: a fault in front of the colon counts before a repeated name.
    if name in taken:
        raise TextError(start)
    sentence, at = read_sentence(text, at)
    return (name, kind, sentence), at
