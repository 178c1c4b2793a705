"""Derivations: rows that stand on top of one another.

A row is a tuple of its name, its fields and its premises. Its head is the row
without the premises; the heads in preorder determine a derivation, so most
of what goes over a whole derivation goes over the list of its heads.
"""

from heldproofs.errors import NoPart, NotBare

FIELDS = {
    "own": ("ref",),
    "take": (),
    "offer": (),
    "pick": ("ref", "side"),
    "pay": ("ref", "kind"),
    "make": ("name", "index"),
    "open": ("ref", "name", "index"),
    "cut": ("kind", "sentence"),
    "cite": ("name",),
}

PREMISES = {"own": 0, "take": 1, "offer": 2, "pick": 1, "pay": 2, "make": 1, "open": 1, "cut": 2, "cite": 0}

# The rows that bring a hold, always into their last premise.
BRINGING = ("take", "pick", "pay", "open", "cut")


def fields_of(name):
    """The fields of the rows of this name in order, or None if there are no such rows."""
    return FIELDS.get(name)


def field_of(row, field):
    """What a row, or its head, has in one of its fields."""
    return row[1 + FIELDS[row[0]].index(field)]


def refers(row):
    """Whether a row, or its head, has a reference of its own."""
    return "ref" in FIELDS[row[0]]


def premise_count(name):
    """The number of premises of the rows of this name."""
    return PREMISES[name]


def premises(derivation):
    """The list of the premises of the root."""
    return list(derivation[1 + len(FIELDS[derivation[0]]):])


def premise_levels(row, level):
    """The level of each premise of a row that stands at this level."""
    levels = [level] * PREMISES[row[0]]
    if row[0] in BRINGING:
        levels[-1] = level + 1
    return levels


def head_of(row):
    """A row without its premises."""
    return row[:1 + len(FIELDS[row[0]])]


def heads(derivation):
    """The list of the heads of all rows in preorder."""
    found = []
    waiting = [derivation]
    while waiting:
        row = waiting.pop()
        found.append(head_of(row))
        waiting.extend(premises(row)[::-1])
    return found


def placed_heads(derivation, level):
    """The list of the heads of all rows in preorder, each with the level at which its row stands."""
    found = []
    waiting = [(derivation, level)]
    while waiting:
        row, here = waiting.pop()
        found.append((head_of(row), here))
        waiting.extend(list(zip(premises(row), premise_levels(row, here)))[::-1])
    return found


def from_heads(found):
    """The derivation that has these heads in preorder."""
    made = []
    for head in reversed(found):
        row = head
        for _ in range(PREMISES[head[0]]):
            row = row + (made.pop(),)
        made.append(row)
    return made[0]


def rows_along(derivation, path):
    """The list of the rows on a path, from the root to the place itself."""
    along = [derivation]
    for index in path:
        above = premises(along[-1])
        if not 0 <= index < len(above):
            raise NoPart(path)
        along.append(above[index])
    return along


def part(derivation, path):
    """The derivation at a path."""
    return rows_along(derivation, path)[-1]


def with_part(derivation, path, other):
    """The derivation in which the part at a path is replaced by another one."""
    along = rows_along(derivation, path)
    made = other
    for row, index in reversed(list(zip(along, path))):
        at = 1 + len(FIELDS[row[0]]) + index
        made = row[:at] + (made,) + row[at + 1:]
    return made


def level_at(derivation, path):
    """The level at a path, where the root is at level 0."""
    level = 0
    along = rows_along(derivation, path)
    for row, index in zip(along, path):
        level = premise_levels(row, level)[index]
    return level


def row_count(derivation):
    """The number of all rows."""
    return len(heads(derivation))


def walk(derivation):
    """Yield the path and the name of each row in preorder."""
    waiting = [((), derivation)]
    while waiting:
        path, row = waiting.pop()
        yield path, row[0]
        above = premises(row)
        for index in reversed(range(len(above))):
            waiting.append((path + (index,), above[index]))


def cut_paths(derivation):
    """The list of the paths of all cut rows in preorder."""
    return [path for path, name in walk(derivation) if name == "cut"]


def is_bare(derivation):
    """Whether a derivation contains no cut row and no cite row."""
    for head in heads(derivation):
        if head[0] in ("cut", "cite"):
            return False
    return True


def require_bare(derivation):
    """Raise the path of the first cut row or cite row in preorder, if there is one."""
    for path, name in walk(derivation):
        if name in ("cut", "cite"):
            raise NotBare(path)
