"""Taking the goal of a derivation apart, and showing goals down to their words."""

from heldproofs.checking import placed_goals
from heldproofs.claims import with_hold
from heldproofs.errors import WrongGoal
from heldproofs.moving import moved
from heldproofs.rows import from_heads, head_of, heads, with_part
from heldproofs.rules import picked_side


def invert_take(claim, derivation, name):
    """The claim with the price of its goal as one more hold and the goods as goal, and a derivation of it."""
    holds, goal = claim
    if goal[0] != "trade":
        raise WrongGoal()
    _, kind, price, goods = goal
    mended = with_hold((holds, goods), name, kind, price)
    path, row, level = last_on_the_way(derivation)
    if row[0] == "take":
        return mended, with_part(derivation, path, moved(row[1], level + 1, level, {level: name}))
    return mended, with_part(derivation, path, used_goal(row, goal, level, ("pay", kind, ("own", name))))


def invert_offer(claim, derivation, side):
    """The claim with one side of its goal as goal, and a derivation of it."""
    holds, goal = claim
    if goal[0] != "menu":
        raise WrongGoal()
    mended = (holds, picked_side(goal, side))
    path, row, level = last_on_the_way(derivation)
    if row[0] == "offer":
        return mended, with_part(derivation, path, row[1] if side == "left" else row[2])
    return mended, with_part(derivation, path, used_goal(row, goal, level, ("pick", side)))


def last_on_the_way(derivation):
    """Where the way ends that follows the goal upward: the path, the row and the level."""
    path, row, level = (), derivation, 0
    while row[0] in ("pick", "pay", "open", "cut"):
        path = path + (1 if row[0] in ("pay", "cut") else 0,)
        row = row[-1]
        level += 1
    return path, row, level


def used_goal(row, goal, level, use):
    """The row own or cite, with a use of what it gives on top: the name of a row and what follows its reference."""
    if row[0] == "own":
        return (use[0], row[1]) + use[1:] + (("own", level),)
    return ("cut", "once", goal, row, (use[0], level) + use[1:] + (("own", level + 1),))


def expanded(library, claim, derivation):
    """The derivation in which each row own stands at a goal that is a word."""
    found = []
    for row, level, goal in placed_goals(library, claim, derivation):
        if row[0] == "own":
            found.extend(heads(expanded_own(row[1], goal, level)))
        else:
            found.append(head_of(row))
    return from_heads(found)


def expanded_own(ref, goal, level):
    """A derivation at a level of the very sentence of a hold, with own at words alone."""
    if goal[0] == "word":
        return ("own", ref)
    if goal[0] == "menu":
        sides = []
        for side in ("left", "right"):
            sides.append(("pick", ref, side, expanded_own(level, picked_side(goal, side), level + 1)))
        return ("offer", sides[0], sides[1])
    _, kind, price, goods = goal
    paid = expanded_own(level, price, level + 1)
    return ("take", ("pay", ref, kind, paid, expanded_own(level + 1, goods, level + 2)))
