"""What each kind of step makes of its row.

Each function in the table CHANGES gets the row at the path of a step and the
level of that row, and returns what stands there behind the step. The row is
known to have it.
"""

from heldproofs.counts import count_of
from heldproofs.moving import moved, occurs
from heldproofs.rows import head_of, premise_levels, premises
from heldproofs.rules import picked_side


def rename(library, row, level):
    """The source is own: the body uses that hold itself."""
    return moved(row[4], level + 1, level, {level: row[3][1]})


def pass_left(library, row, level):
    """The row at the root of the source comes below the cut."""
    _, _, sentence, source, body = row
    deeper = moved(body, level + 1, level + 2, {level: level + 1})
    return source[:-1] + (("cut", "once", sentence, source[-1], deeper),)


def drop(library, row, level):
    """The body does not use the cut."""
    return moved(row[4], level + 1, level, {})


def land(library, row, level):
    """The body is own: the source stands for it."""
    return row[3]


def pass_right(library, row, level):
    """The row at the root of the body comes below the cut."""
    body = row[4]
    made = head_of(body)
    for premise, inner in zip(premises(body), premise_levels(body, level + 1)):
        made = made + (pushed(row, level, premise, inner),)
    return made


def pushed(row, level, premise, inner):
    """A premise of the body, at its level there, with the cut pushed into it if it uses the cut.

    The premise comes down by one level; so does the hold that the body brings into it.
    """
    # With an inner level of level + 1 there is no such hold, and nothing is renamed.
    brought = {level + 1: level}
    if not occurs(premise, level):
        return moved(premise, inner, inner - 1, brought)
    _, kind, sentence, source, _ = row
    swapped = premise
    if inner > level + 1:
        swapped = moved(premise, inner, inner, {level: level + 1, level + 1: level})
    return ("cut", pushed_kind(kind, premise, level), sentence, moved(source, level, inner - 1, {}), swapped)


def pushed_kind(kind, premise, level):
    """The kind of a cut that is pushed into a premise."""
    if kind == "once":
        return kind
    count = count_of(premise, level)
    return count.most, count.days


def peel(library, row, level):
    """The use at the root of the body is split off from the others."""
    _, kind, sentence, source, body = row
    made = head_of(body)
    for premise, inner in zip(premises(body), premise_levels(body, level + 1)):
        kept = premise
        if occurs(premise, level):
            others = moved(premise, inner, inner + 1, {level: inner})
            copied = moved(source, level, inner, {})
            kept = ("cut", pushed_kind(kind, premise, level), sentence, copied, others)
        made = made + (kept,)
    return ("cut", "once", sentence, source, made)


def meet(library, row, level):
    """The last row of the source makes what the row at the root of the body uses."""
    _, _, sentence, source, body = row
    top = moved(body[-1], level + 2, level + 1, {level + 1: level})
    if body[0] == "pay":
        paid = moved(body[3], level + 1, level, {})
        return ("cut", "once", sentence[3], ("cut", body[2], sentence[2], paid, source[1]), top)
    if body[0] == "pick":
        picked = source[1] if body[2] == "left" else source[2]
        return ("cut", "once", picked_side(sentence, body[2]), picked, top)
    name, i, j = source[1], source[2], body[3]
    between = moved(library.meeting(name, i, j), 0, level + 1, {"from": level})
    made = ("cut", "once", library.makes_of(name)[i], source[3], between)
    return ("cut", "once", library.opens_of(name)[j], made, top)


def unfold(library, row, level):
    """The derivation of the entry stands for its citation."""
    return moved(library.entry(row[1])[1], 0, level, {})


CHANGES = {
    "rename": rename,
    "pass left": pass_left,
    "drop": drop,
    "land": land,
    "pass right": pass_right,
    "peel": peel,
    "meet": meet,
    "unfold": unfold,
}


def changed_row(library, row, level, name):
    """What stands in place of a row at this level behind its step of this name."""
    change = CHANGES[name]
    return change(library, row, level)
