"""Claims: some holds and the goal that they give."""

from heldproofs.errors import BadKind, BadName, NameTaken, UnknownName
from heldproofs.kinds import is_kind
from heldproofs.names import is_name
from heldproofs.sentencetext import format_sentence


def make_claim(holds, goal):
    """The claim of these holds and this goal."""
    made = []
    taken = []
    for name, kind, sentence in holds:
        if not is_name(name):
            raise BadName(name)
        if not is_kind(kind):
            raise BadKind(kind)
        if name in taken:
            raise NameTaken(name)
        taken.append(name)
        made.append((name, kind, sentence))
    return tuple(made), goal


def hold_of(claim, name):
    """The kind and the sentence of a hold."""
    for held, kind, sentence in claim[0]:
        if held == name:
            return kind, sentence
    raise UnknownName(name)


def with_hold(claim, name, kind, sentence):
    """The claim with one more hold at the end."""
    holds, goal = claim
    return make_claim(holds + ((name, kind, sentence),), goal)


def without_hold(claim, name):
    """The claim in which a hold is left out."""
    holds, goal = claim
    kept = tuple([hold for hold in holds if hold[0] != name])
    if len(kept) == len(holds):
        raise UnknownName(name)
    return kept, goal


def pair_order(pair):
    """Where a pair of a kind and a sentence stands among others in a bare claim."""
    kind, sentence = pair
    if kind == "once":
        return format_sentence(sentence), 0, 0, 0
    return format_sentence(sentence), 1, kind[0], kind[1]


def bare_claim(claim):
    """The claim without the names of its holds, in an order that forgets theirs."""
    holds, goal = claim
    pairs = [(kind, sentence) for name, kind, sentence in holds]
    return tuple(sorted(pairs, key=pair_order)), goal
