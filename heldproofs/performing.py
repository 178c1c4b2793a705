"""Running derivations as programs."""

from heldproofs.errors import NoMeeting
from heldproofs.moving import free_refs
from heldproofs.readings import reading_of
from heldproofs.rows import head_of


class Unknown:
    """A thing of which nothing is known but what was done with it: its head and the actions.

    The actions are those of a reading, with the value that was paid in place of its reading.
    """

    def __init__(self, head, actions):
        self.head = head
        self.actions = actions

    def after(self, action):
        """The thing that comes of one more action."""
        return Unknown(self.head, self.actions + (action,))


def perform(library, derivation, things):
    """The value that a derivation yields from values for its holds."""
    return value_of(library, derivation, 0, things)


def value_of(library, derivation, level, things):
    """The value of a derivation at a level, from the values of what it refers to."""
    held = {ref: things[ref] for ref in things}
    row, here = derivation, level
    made = []
    # Bodies one after another, not calls within calls: a derivation may nest deeply.
    while row[0] not in ("own", "take", "offer"):
        if row[0] == "make":
            made.append(head_of(row))
            row = row[3]
        elif row[0] == "cite":
            row, here, held = library.entry(row[1])[1], 0, {}
        else:
            held[here] = brought_value(library, row, here, held)
            row, here = row[-1], here + 1
    value = ended_value(library, row, here, held)
    for _, name, index in reversed(made):
        value = ("made", name, index, value)
    return value


def ended_value(library, row, level, held):
    """The value of a row own, take or offer."""
    if row[0] == "own":
        return held[row[1]]
    if row[0] == "offer":
        return value_of(library, row[1], level, held), value_of(library, row[2], level, held)
    return function_of(library, row[1], level, held)


def function_of(library, body, level, held):
    """The function that a row take at this level yields."""
    def function(value):
        inner = {ref: held[ref] for ref in held}
        inner[level] = value
        return value_of(library, body, level + 1, inner)

    return function


def brought_value(library, row, level, held):
    """The value of the hold that a row pick, pay, open or cut brings."""
    if row[0] == "cut":
        return value_of(library, row[3], level, held)
    thing = held[row[1]]
    if row[0] == "pick":
        return picked(thing, row[2])
    if row[0] == "pay":
        return bought(thing, row[2], value_of(library, row[3], level, held))
    return opened(library, thing, row[2], row[3])


def picked(thing, side):
    """One side of the value of a menu."""
    if isinstance(thing, Unknown):
        return thing.after(("pick", side))
    return thing[0] if side == "left" else thing[1]


def bought(thing, kind, value):
    """What the value of a trade gives for the value of its price."""
    if isinstance(thing, Unknown):
        return thing.after(("pay", kind, value))
    return thing(value)


def opened(library, thing, name, index):
    """What the value of a defined word gives when it is opened."""
    if isinstance(thing, Unknown):
        return thing.after(("open", name, index))
    if not isinstance(thing, tuple):
        return thing(index)
    _, _, made, value = thing
    meeting = library.meeting(name, made, index)
    if meeting is None:
        raise NoMeeting(name, made, index)
    return value_of(library, meeting, 0, {"from": value})


def read_back(library, derivation):
    """The reading of the bare derivations that runs of an accepted derivation end in."""
    things = {ref: Unknown(ref, ()) for ref in free_refs(derivation, 0)}
    found = []
    waiting = [(value_of(library, derivation, 0, things), 0)]
    while waiting:
        item = waiting.pop()
        if isinstance(item[0], str):
            found.append(item)
        else:
            waiting.extend(read_value(item[0], item[1])[::-1])
    return reading_of(found)


def read_value(value, takes):
    """What a value inside of so many takes gives to a reading: signs, and values yet to be read."""
    if isinstance(value, Unknown):
        return read_unknown(value, takes)
    if not isinstance(value, tuple):
        return [("take",), (value(Unknown(takes, ())), takes + 1)]
    if value[0] == "made":
        return [("make", value[1], value[2]), (value[3], takes)]
    return [("offer",), (value[0], takes), (value[1], takes)]


def read_unknown(thing, takes):
    """What an unknown thing inside of so many takes gives to a reading."""
    found = [("head", thing.head, len(thing.actions))]
    for action in thing.actions:
        if action[0] == "pay":
            found.append(("pay", action[1]))
            found.append((action[2], takes))
        else:
            found.append(action)
    return found
