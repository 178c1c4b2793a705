"""Writing and reading the texts of derivations."""

from heldproofs.errors import TextError
from heldproofs.names import is_name, is_number
from heldproofs.rows import fields_of, from_heads, heads, premise_count
from heldproofs.sentencetext import format_sentence, read_sentence
from heldproofs.tokens import format_kind, read_sign, skip_spaces


def format_derivation(derivation):
    """The text of a derivation: the tokens of its rows in preorder."""
    return " ".join([format_head(head) for head in heads(derivation)])


def format_head(head):
    """The tokens of one row."""
    words = [head[0]]
    for field, value in zip(fields_of(head[0]), head[1:]):
        words.append(format_field(field, value))
    return " ".join(words)


def format_field(field, value):
    """The text of what a row has in one field."""
    if field == "kind":
        return format_kind(value)
    if field == "sentence":
        return f"({format_sentence(value)})"
    if field == "index":
        return str(value)
    if field == "ref" and isinstance(value, int):
        return "#" + str(value)
    return value


def parse_derivation(text):
    """The derivation of a text."""
    found = []
    missing = 1
    at = 0
    while missing > 0:
        head, at = read_head(text, at)
        found.append(head)
        missing += premise_count(head[0]) - 1
    at = skip_spaces(text, at)
    if at < len(text):
        raise TextError(at)
    return from_heads(found)


def read_head(text, start):
    """Read the tokens of one row; its head and the index behind them."""
    at, stop = token_span(text, start)
    name = text[at:stop]
    fields = fields_of(name)
    if fields is None:
        raise TextError(at)
    values = []
    for field in fields:
        value, stop = read_field(text, stop, field)
        values.append(value)
    return (name,) + tuple(values), stop


def token_span(text, start):
    """Where the first token from start on begins, and the index behind it."""
    at = skip_spaces(text, start)
    stop = text.find(" ", at)
    return at, len(text) if stop < 0 else stop


def read_field(text, start, field):
    """Read what stands in one field; its value and the index behind it."""
    at, stop = token_span(text, start)
    if field == "sentence":
        return read_enclosed(text, at)
    value = token_value(text[at:stop], field)
    if value is None:
        raise TextError(at)
    return value, stop


def read_enclosed(text, start):
    """Read a sentence with the parentheses around it; the sentence and the index behind them."""
    # Read up to where the sentence ends, not up to a parenthesis that was looked for
    # first: the first fault from the left counts, whether that parenthesis is there or not.
    sentence, at = read_sentence(text, read_sign(text, start, "("))
    behind = read_sign(text, at, ")")
    if behind < len(text) and text[behind] != " ":
        raise TextError(behind)
    return sentence, behind


def token_value(token, field):
    """What a token means in a field, or None if it cannot stand there."""
    if field == "kind":
        return kind_value(token)
    if field == "index":
        return number_value(token)
    if field == "side":
        return token if token in ("left", "right") else None
    if field == "ref" and token.startswith("#"):
        return number_value(token[1:])
    return token if is_name(token) else None


def number_value(token):
    """The number of a token, or None."""
    return int(token) if is_number(token) else None


def kind_value(token):
    """The kind of a token, or None."""
    if token == "once":
        return token
    if not token.startswith("[") or not token.endswith("]"):
        return None
    uses, _, days = token[1:-1].partition("/")
    if uses == "0" or not is_number(uses) or not is_number(days):
        return None
    return int(uses), int(days)
