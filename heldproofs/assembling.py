"""Putting the derivation together that tactics have built.

A tactic that was done is a triple of the claim of the goal that it closed, the
tactic as a tuple, and the list of the numbers of the goals that it opened.
"""

from heldproofs.claims import hold_of
from heldproofs.moving import moved
from heldproofs.rows import from_heads, heads, premise_levels

# Where the name of the new hold stands in a tactic.
NEW_AT = {"take": 2, "pick": 4, "pay": 3, "unpack": 4, "cut": 3}


def assembled(done):
    """The derivation of tactics that have closed all goals."""
    by_number = {told[1]: (claim, told, numbers) for claim, told, numbers in done}
    found = []
    waiting = [(0, 0, {})]
    while waiting:
        item = waiting.pop()
        if isinstance(item[0], str):
            found.append(item)
        else:
            waiting.extend(rows_of(by_number[item[0]], item[1], item[2])[::-1])
    return from_heads(found)


def rows_of(record, level, refs):
    """The heads of the rows that a tactic builds at a level, and its new goals with their places.

    The levels of holds that rows below brought are found under their names in refs.
    """
    claim, told, numbers = record
    if told[0] == "fill":
        return heads(moved(told[2], 0, level, refs))
    head = head_of_tactic(claim, told, refs)
    rows = [head]
    for number, above in zip(numbers, premise_levels(head, level)):
        rows.append((number, above, refs if above == level else with_new_ref(refs, told, level)))
    return rows


def with_new_ref(refs, told, level):
    """The levels of holds by their names, with the new hold of a tactic; a spent hold may have had its name."""
    inner = {name: refs[name] for name in refs}
    inner[told[NEW_AT[told[0]]]] = level
    return inner


def head_of_tactic(claim, told, refs):
    """The head of the row that a tactic is named after."""
    if told[0] in ("take", "offer"):
        return told[:1]
    if told[0] == "make":
        return ("make", claim[1][1], told[2])
    if told[0] == "cut":
        return ("cut", told[4], told[2])
    if told[0] == "cite":
        return ("cite", told[2])
    ref = refs.get(told[2], told[2])
    if told[0] == "own":
        return ("own", ref)
    if told[0] == "pick":
        return ("pick", ref, told[3])
    _, sentence = hold_of(claim, told[2])
    if told[0] == "pay":
        return ("pay", ref, sentence[1])
    return ("open", ref, sentence[1], told[3])
