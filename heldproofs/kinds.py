"""Kinds: how a thing is held, once or in stock."""

from heldproofs.errors import BadKind


def is_number_from(value, least):
    """Whether a value of any form is an integer of at least this."""
    return isinstance(value, int) and not isinstance(value, bool) and value >= least


def is_kind(value):
    """Whether a value of any form is a kind."""
    if isinstance(value, tuple):
        return len(value) == 2 and is_number_from(value[0], 1) and is_number_from(value[1], 0)
    return isinstance(value, str) and value == "once"


def nested(outer, inner):
    """The kind of something of one kind that is packed into another kind."""
    if outer == "once":
        return inner
    if inner == "once":
        return outer
    return outer[0] * inner[0], outer[1] + inner[1]


def pooled(first, second):
    """The kind of two stocks that are put together."""
    for kind in (first, second):
        if kind == "once":
            raise BadKind(kind)
    return first[0] + second[0], max(first[1], second[1])


def covers(room, kind):
    """Whether a hold of the kind room is enough where the other kind is asked for."""
    if kind == "once":
        return True
    if room == "once":
        return False
    return kind[0] <= room[0] and kind[1] <= room[1]


def spent_kind(kind):
    """What a hold of the kind is after one use; None if nothing is left."""
    if kind == "once" or kind[0] == 1:
        return None
    return kind[0] - 1, kind[1]
