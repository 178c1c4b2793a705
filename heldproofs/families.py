"""Families of claims and derivations whose plays and steps are known."""

P = ("word", "p")
Q = ("word", "q")


def passing_family(left, right):
    """A cut that has to pass left rows of its source and right rows of its body."""
    held, goal = P, P
    for _ in range(left):
        held = ("menu", held, Q)
    for _ in range(right):
        goal = ("trade", (1, 0), Q, goal)
    body = ("own", 0)
    for _ in range(right):
        body = ("take", body)
    return ((("x", "once", held),), goal), ("cut", "once", P, picks_left(left), body)


def picks_left(count):
    """Rows that pick the left side of x, then of what the row below brought, and own on top."""
    refs = ["x"] + list(range(count))
    made = ("own", refs[count])
    for ref in reversed(refs[:count]):
        made = ("pick", ref, "left", made)
    return made


def doubling_family(count):
    """Cuts of menus of equal sides, each with twice the plays of the one before."""
    sentence, made = P, ("own", "x")
    for _ in range(count):
        made = ("cut", "once", sentence, made, ("offer", ("own", 0), ("own", 0)))
        sentence = ("menu", sentence, sentence)
    return ((("x", "once", P),), sentence), made


def copying_family(count, uses):
    """Cuts in stock of a trade, each of which uses the one before so many times."""
    sentence = ("trade", "once", P, P)
    many, made = 1, uses_of_hold("x", 1, 0)
    for _ in range(count):
        many = many * uses
        made = ("cut", (uses, 0), sentence, made, uses_of_hold(0, uses, 1))
    return ((("x", (many, 0), sentence),), sentence), made


def uses_of_hold(ref, count, level):
    """A derivation at a level that takes a p and pays with it so many times, each time for the next one."""
    made = ("own", level + count)
    for at in reversed(range(count)):
        made = ("pay", ref, "once", ("own", level + at), made)
    return ("take", made)
