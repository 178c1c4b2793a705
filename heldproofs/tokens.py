"""Reading a text character by character, and what all texts write alike.

Each reader stops at the first character that cannot stand at its place.
"""

from heldproofs.errors import TextError
from heldproofs.names import NAME_LENGTH, NUMBER_LENGTH, is_digit, is_letter


def skip_spaces(text, start):
    """The index of the first character from start on that is no space."""
    at = start
    while text[at:at + 1] == " ":
        at += 1
    return at


def read_sign(text, start, sign):
    """Skip spaces, then read a sign; the index behind it."""
    at = skip_spaces(text, start)
    for char in sign:
        if text[at:at + 1] != char:
            raise TextError(at)
        at += 1
    return at


def read_name(text, start):
    """Read a name that begins at start; the index behind it."""
    if not is_letter(text[start:start + 1]):
        raise TextError(start)
    stop = start
    while is_letter(text[stop:stop + 1]) or is_digit(text[stop:stop + 1]):
        stop += 1
    if stop - start > NAME_LENGTH:
        raise TextError(start + NAME_LENGTH)
    return stop


def read_number(text, start, least):
    """Read a number whose first digit is at least least; the number and the index behind it."""
    first = text[start:start + 1]
    if not is_digit(first) or int(first) < least:
        raise TextError(start)
    stop = start
    while is_digit(text[stop:stop + 1]):
        stop += 1
    most = 1 if first == "0" else NUMBER_LENGTH
    if stop - start > most:
        raise TextError(start + most)
    return int(text[start:stop]), stop


def read_brackets(text, start):
    """Read a stock kind from its opening bracket on; the kind and the index behind it."""
    at = read_sign(text, start, "[")
    uses, at = read_number(text, skip_spaces(text, at), 1)
    at = read_sign(text, at, "/")
    days, at = read_number(text, skip_spaces(text, at), 0)
    return (uses, days), read_sign(text, at, "]")


def format_kind(kind):
    """A kind as it is written: once, or uses and days in brackets."""
    if kind == "once":
        return "once"
    return f"[{kind[0]}/{kind[1]}]"
