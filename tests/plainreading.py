"""Second, plain definitions for points 51 to 61: readings, exchanges and values."""

from heldproofs.moving import moved
from plain import is_used

MOVING = ("pick", "pay", "open")


def plain_reading(row, level=0, takes=0, env=None):
    """Point 52. What a reference stands for depends on the number of takes around the place of its use."""
    env = env or {}

    def stands_for(ref):
        return env.get(ref, lambda around: (ref, ()))

    name = row[0]
    if name == "own":
        return ("head",) + stands_for(row[1])(takes)
    if name == "take":
        return ("take", plain_reading(row[1], level + 1, takes + 1, {**env, level: lambda around: (takes, ())}))
    if name == "offer":
        return ("offer", plain_reading(row[1], level, takes, env), plain_reading(row[2], level, takes, env))
    if name == "make":
        return row[:3] + (plain_reading(row[3], level, takes, env),)

    def brought(around):
        head, actions = stands_for(row[1])(around)
        if name == "pay":
            return head, actions + (("pay", row[2], plain_reading(row[3], level, around, env)),)
        return head, actions + ((name,) + row[2:-1],)

    return plain_reading(row[-1], level + 1, takes, {**env, level: brought})


def plain_settled(reading, level=0, taken=()):
    """Point 53."""
    if reading[0] == "take":
        return ("take", plain_settled(reading[1], level + 1, taken + (level,)))
    if reading[0] == "offer":
        return ("offer", plain_settled(reading[1], level, taken), plain_settled(reading[2], level, taken))
    if reading[0] == "make":
        return reading[:3] + (plain_settled(reading[3], level, taken),)
    ref = reading[1] if isinstance(reading[1], str) else taken[reading[1]]
    return plain_actions(ref, reading[2], level, taken)


def plain_actions(ref, actions, level, taken):
    if not actions:
        return ("own", ref)
    above = plain_actions(level, actions[1:], level + 1, taken)
    if actions[0][0] == "pay":
        return ("pay", ref, actions[0][1], plain_settled(actions[0][2], level, taken), above)
    return (actions[0][0], ref) + actions[0][1:] + (above,)


def plain_exchange(row, m):
    """Point 56 for a row L at level m: what the exchange makes of it, or None."""
    if row[0] not in MOVING:
        return None
    R = row[-1]
    if R[0] == "own" or R[0] in MOVING and R[1] == m:
        return None

    def L(body):
        return row[:-1] + (body,)

    def higher(body):
        if row[0] == "pay":
            return row[:3] + (moved(row[3], m, m + 1, {}), body)
        return L(body)

    def swap(T):
        return moved(T, m + 2, m + 2, {m: m + 1, m + 1: m})

    if R[0] in ("take", "pick", "open"):
        return R[:-1] + (higher(swap(R[-1])),)
    if R[0] == "offer":
        return ("offer", L(R[1]), L(R[2]))
    if R[0] == "make":
        return R[:-1] + (L(R[-1]),)
    _, ref, kind, P, T = R
    if is_used(P, m):
        return ("pay", ref, kind, L(P), moved(T, m + 2, m + 1, {m + 1: m}))
    return ("pay", ref, kind, moved(P, m + 1, m, {}), higher(swap(T)))


def premises_of(row):
    many = {"own": 0, "offer": 2, "pay": 2}.get(row[0], 1)
    return list(row[len(row) - many:]) if many else []


def plain_exchanges(row, level=0, path=()):
    """Point 57: each path at which an exchange exists, with the whole of what it makes of that place."""
    found = [(path, plain_exchange(row, level))] if plain_exchange(row, level) else []
    above = premises_of(row)
    for index, premise in enumerate(above):
        brings = row[0] in MOVING + ("take",) and index == len(above) - 1
        found += plain_exchanges(premise, level + brings, path + (index,))
    return found


def lowered(row, m, index):
    """The converse of an exchange, for a row R at level m and the root L of one of its premises; or None.

    Premises of offers are left alone, and so are parts that are paid in stock.
    """
    above = premises_of(row)
    if row[0] in ("own", "offer") or above[index][0] not in MOVING:
        return None
    L = above[index]
    if row[0] == "make":
        return L[:-1] + (row[:3] + (L[-1],),)
    if row[0] == "pay" and index == 0:
        if row[2] != "once":
            return None
        body = moved(row[4], m + 1, m + 2, {m: m + 1})
        return L[:-1] + (row[:3] + (L[-1], body),)
    if L[1] == m or L[0] == "pay" and is_used(L[3], m):
        return None
    if L[0] == "pay":
        L = L[:3] + (moved(L[3], m + 1, m, {}), L[4])
    T = moved(L[-1], m + 2, m + 2, {m: m + 1, m + 1: m})
    if row[0] == "pay":
        return L[:-1] + (row[:3] + (moved(row[3], m, m + 1, {}), T),)
    return L[:-1] + (row[:-1] + (T,),)


def generic(library, sentence, label):
    """A value of a sentence of which nothing is known but its label; what is done with it shows in labels."""
    if sentence[0] == "menu":
        return generic(library, sentence[1], label + ".l"), generic(library, sentence[2], label + ".r")
    if sentence[0] == "trade":
        return lambda value: generic(library, sentence[3], f"{label}({shown(library, sentence[2], value)})")
    if sentence[1] in library:
        opens = library.opens_of(sentence[1])
        return lambda index: generic(library, opens[index], label + ".o" + str(index))
    return label


def shown(library, sentence, value, depth=0):
    """The text of a value of a sentence; functions are equal if they have equal texts."""
    if sentence[0] == "menu":
        assert type(value) is tuple and len(value) == 2
        return "<" + shown(library, sentence[1], value[0], depth) + "," + shown(library, sentence[2], value[1], depth) + ">"
    if sentence[0] == "trade":
        given = generic(library, sentence[2], "?" + str(depth))
        return "{" + shown(library, sentence[3], value(given), depth + 1) + "}"
    if sentence[1] not in library:
        assert type(value) is str
        return value
    if isinstance(value, tuple):
        assert value[:2] == ("made", sentence[1]) and len(value) == 4
        return str(value[2]) + shown(library, library.makes_of(sentence[1])[value[2]], value[3], depth)
    opens = library.opens_of(sentence[1])
    return "[" + ",".join(shown(library, inner, value(at), depth) for at, inner in enumerate(opens)) + "]"


def value_of_reading(reading, things, taken=()):
    """What a reading says, done with values: the value of a bare derivation in another way."""
    if reading[0] == "take":
        return lambda value: value_of_reading(reading[1], things, taken + (value,))
    if reading[0] == "offer":
        return value_of_reading(reading[1], things, taken), value_of_reading(reading[2], things, taken)
    if reading[0] == "make":
        return ("made",) + reading[1:3] + (value_of_reading(reading[3], things, taken),)
    value = things[reading[1]] if isinstance(reading[1], str) else taken[reading[1]]
    for action in reading[2]:
        if action[0] == "pay":
            value = value(value_of_reading(action[2], things, taken))
        elif action[0] == "pick":
            value = value[["left", "right"].index(action[1])]
        else:
            value = value(action[2])
    return value
