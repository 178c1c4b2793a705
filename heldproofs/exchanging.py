"""Exchanges: moving a row of a bare derivation up past the row on top of it."""

from heldproofs.errors import NoPart, NoStep, NotAlike
from heldproofs.moving import moved, occurs
from heldproofs.readings import alike, read_bare, settled_from
from heldproofs.rows import head_of, level_at, part, premise_levels, premises, refers, require_bare, with_part

MOVING_UP = ("pick", "pay", "open")


def exchange_paths(derivation):
    """The list of the paths of the rows that can move up."""
    require_bare(derivation)
    return exchanges_in(derivation)


def exchanges_in(derivation):
    """The list of the paths of the rows of a bare derivation that can move up, in preorder."""
    found = []
    waiting = [((), derivation, 0)]
    while waiting:
        path, row, level = waiting.pop()
        if does_exchange(row, level):
            found.append(path)
        above = []
        for premise, inner in zip(premises(row), premise_levels(row, level)):
            above.append((path + (len(above),), premise, inner))
        waiting.extend(above[::-1])
    return found


def does_exchange(row, level):
    """Whether a row at this level can move up past the root of its body."""
    if row[0] not in MOVING_UP:
        return False
    above = row[-1]
    return above[0] != "own" and not (refers(above) and above[1] == level)


def exchange(derivation, path):
    """The derivation in which the row at a path has moved up by one place."""
    require_bare(derivation)
    try:
        row = part(derivation, path)
    except NoPart:
        raise NoStep(path, "exchange") from None
    if not does_exchange(row, level_at(derivation, path)):
        raise NoStep(path, "exchange")
    return moved_up(derivation, path)


def moved_up(derivation, path):
    """The derivation in which the row at a path, which can move up, has done so."""
    row = part(derivation, path)
    return with_part(derivation, path, exchanged(row, level_at(derivation, path)))


def exchanged(row, level):
    """What stands in place of a row at this level that moves up past the root of its body."""
    above = row[-1]
    if above[0] in ("offer", "make"):
        return head_of(above) + tuple([row[:-1] + (premise,) for premise in premises(above)])
    if above[0] == "pay" and occurs(above[3], level):
        return above[:3] + (row[:-1] + (above[3],), moved(above[4], level + 2, level + 1, {level + 1: level}))
    body = moved(above[-1], level + 2, level + 2, {level: level + 1, level + 1: level})
    made = raised(row, level) + (body,)
    if above[0] == "pay":
        return above[:3] + (moved(above[3], level + 1, level, {}), made)
    return above[:-1] + (made,)


def raised(row, level):
    """A row at this level as it stands one level higher, without its body."""
    if row[0] == "pay":
        return row[:3] + (moved(row[3], level, level + 1, {}),)
    return row[:-1]


def settling(derivation):
    """The list of the derivations from a bare one to its settled form, each by the last exchange of the one before."""
    require_bare(derivation)
    found = [derivation]
    paths = exchanges_in(derivation)
    while paths:
        here = moved_up(found[-1], paths[-1])
        found.append(here)
        paths = exchanges_in(here)
    return found


def settle(derivation):
    """The settled form of a bare derivation."""
    return settled_from(read_bare(derivation))


def chain(first, second):
    """The list of the derivations on a way from a bare one to another one that is alike, by exchanges to and fro."""
    if not alike(first, second):
        raise NotAlike()
    back = settling(second)[:-1]
    return settling(first) + back[::-1]
