"""Readings: what is done with which hold, whatever the order of independent rows.

A reading is made by way of its signs, a list in preorder: `("take",)`,
`("offer",)`, `("make", name, index)`, `("head", ref, count)` with the number of
the actions, and then for each action `("pay", kind)` in front of the signs of
what is paid, `("pick", side)` or `("open", name, index)`.
"""

from heldproofs.rows import field_of, from_heads, head_of, premises, refers, require_bare


def read_bare(derivation):
    """The reading of a bare derivation."""
    return reading_of(signs_of(derivation))


def alike(first, second):
    """Whether two bare derivations have the same reading."""
    return signs_of(first) == signs_of(second)


def signs_of(derivation):
    """The signs of the reading of a bare derivation."""
    require_bare(derivation)
    found = []
    waiting = [(derivation, 0, 0, {})]
    while waiting:
        item = waiting.pop()
        if isinstance(item[0], str):
            found.append(item)
        else:
            waiting.extend(read_row(item[0], item[1], item[2], item[3])[::-1])
    return found


def read_row(row, level, takes, meanings):
    """What a row at a level, inside of so many takes, gives to a reading: signs, and parts yet to be read.

    What a reference stands for is a pair of a head and a tuple of actions. A pay action
    has what is paid and where it stood, since it is read where the hold is used.
    """
    if row[0] == "own":
        return read_head(row[1], takes, meanings)
    if row[0] == "take":
        return [("take",), (row[1], level + 1, takes + 1, with_meaning(meanings, level, (takes, ())))]
    if not refers(row):
        return [head_of(row)] + [(premise, level, takes, meanings) for premise in premises(row)]
    head, actions = meaning_of(meanings, row[1])
    action = (row[0],) + head_of(row)[2:]
    if row[0] == "pay":
        action = ("pay", field_of(row, "kind"), row[3], level, meanings)
    return [(row[-1], level + 1, takes, with_meaning(meanings, level, (head, actions + (action,))))]


def read_head(ref, takes, meanings):
    """What a row own, inside of so many takes, gives to a reading."""
    head, actions = meaning_of(meanings, ref)
    found = [("head", head, len(actions))]
    for action in actions:
        if action[0] == "pay":
            _, kind, paid, level, inner = action
            found.append(("pay", kind))
            found.append((paid, level, takes, inner))
        else:
            found.append(action)
    return found


def meaning_of(meanings, ref):
    """What a reference stands for: names stand for themselves."""
    return meanings.get(ref, (ref, ()))


def with_meaning(meanings, level, meaning):
    """What references stand for above a row at this level that brings a hold."""
    inner = {ref: meanings[ref] for ref in meanings}
    inner[level] = meaning
    return inner


def reading_of(signs):
    """The reading that has these signs."""
    made = []
    for sign in reversed(signs):
        if sign[0] == "head":
            made.append(("head", sign[1], tuple([made.pop() for _ in range(sign[2])])))
        elif sign[0] == "offer":
            left = made.pop()
            made.append(("offer", left, made.pop()))
        elif sign[0] in ("take", "make", "pay"):
            made.append(sign + (made.pop(),))
        else:
            made.append(sign)
    return made[0]


def settled_from(reading):
    """The bare derivation that does what a reading says, each action right on top of the one before."""
    found = []
    waiting = [(reading, 0, {})]
    while waiting:
        item = waiting.pop()
        if isinstance(item[0], str):
            found.append(item)
        else:
            waiting.extend(settled_rows(item[0], item[1], item[2])[::-1])
    return from_heads(found)


def settled_rows(reading, level, taken):
    """The heads of the next rows for a reading at a level, and the readings of parts between them.

    The holds from take are known by their numbers in the reading; taken tells their levels.
    """
    if reading[0] == "head":
        return settled_head(reading, level, taken)
    if reading[0] == "take":
        return [("take",), (reading[1], level + 1, with_meaning(taken, len(taken), level))]
    if reading[0] == "offer":
        return [("offer",), (reading[1], level, taken), (reading[2], level, taken)]
    return [reading[:3], (reading[3], level, taken)]


def settled_head(reading, level, taken):
    """The heads of the rows for the actions of a head, with what they pay between them, and own on top."""
    _, head, actions = reading
    ref = taken.get(head, head)
    rows = []
    for action in actions:
        if action[0] == "pay":
            rows.append(("pay", ref, action[1]))
            rows.append((action[2], level, taken))
        else:
            rows.append((action[0], ref) + action[1:])
        ref = level
        level += 1
    rows.append(("own", ref))
    return rows
