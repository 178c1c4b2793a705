"""Steps: taking cuts and cites out of a derivation, one at a time."""

from heldproofs.errors import NoPart, NoStep
from heldproofs.moving import occurs
from heldproofs.reducing import changed_row
from heldproofs.rows import level_at, part, premise_levels, premises, refers, with_part

WAYS = ("left", "right", "unfold")

# What has to be at the root of the source if this row at the root of the body uses the cut.
MEETS = {"pay": "take", "pick": "offer", "open": "make"}


def steps(library, derivation):
    """The list of all steps that exist."""
    found = []
    for path, row, level, used in reducible_rows(derivation):
        for way in WAYS:
            if name_of(library, row, level, used, way) is not None:
                found.append((path, way))
    return found


def step_name(library, derivation, step):
    """The name of a step that exists."""
    _, _, name = place_of(library, derivation, step)
    return name


def do_step(library, derivation, step):
    """The derivation that a step makes of another one."""
    row, level, name = place_of(library, derivation, step)
    return with_part(derivation, step[0], changed_row(library, row, level, name))


def place_of(library, derivation, step):
    """The row of a step, its level and the name of the step."""
    path, way = step
    try:
        row = part(derivation, path)
    except NoPart:
        raise NoStep(path, way) from None
    level = level_at(derivation, path)
    used = row[0] == "cut" and occurs(row[4], level)
    name = name_of(library, row, level, used, way)
    if name is None:
        raise NoStep(path, way)
    return row, level, name


def reducible_rows(derivation):
    """The list of all rows cut and cite in preorder: path, row, level, and whether the body uses the cut."""
    found = []
    used = {}
    # Rows go by numbers here; for each level in scope, the row that brought its hold.
    bringers = {}
    count = 0
    waiting = [((), derivation, 0, None)]
    while waiting:
        path, row, level, bringer = waiting.pop()
        if bringer is not None:
            bringers[level - 1] = bringer
        if refers(row) and row[1] in bringers:
            used[bringers[row[1]]] = True
        if row[0] in ("cut", "cite"):
            found.append((path, row, level, count))
        above = []
        for premise, inner in zip(premises(row), premise_levels(row, level)):
            above.append((path + (len(above),), premise, inner, count if inner > level else None))
        waiting.extend(above[::-1])
        count += 1
    return [(path, row, level, number in used) for path, row, level, number in found]


def name_of(library, row, level, used, way):
    """The name of the step of a row in a way, or None if there is none."""
    if row[0] == "cite":
        return "unfold" if way == "unfold" and row[1] in library.entry_names() else None
    if row[0] == "cut" and way == "left":
        return name_of_left(row)
    if row[0] == "cut" and way == "right":
        return name_of_right(library, row, level, used)
    return None


def name_of_left(row):
    """The name of the step to the left of a cut, or None."""
    _, kind, _, source, _ = row
    if source[0] == "own":
        return "rename"
    if kind == "once" and source[0] in MEETS:
        return "pass left"
    return None


def name_of_right(library, row, level, used):
    """The name of the step to the right of a cut, or None."""
    _, kind, _, source, body = row
    if not used:
        return None if kind == "once" else "drop"
    if body[0] == "own":
        return "land"
    if body[0] in ("cut", "cite"):
        return None
    if not refers(body) or body[1] != level:
        return "pass right"
    if kind != "once":
        return "peel"
    return "meet" if does_meet(library, source, body) else None


def does_meet(library, source, body):
    """Whether the last row of a source makes what the row at the root of the body uses."""
    if source[0] != MEETS[body[0]]:
        return False
    if body[0] != "open":
        return True
    return source[1] == body[2] and library.meeting(source[1], source[2], body[3]) is not None
