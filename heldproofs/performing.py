"""Running derivations as programs."""

from heldproofs.errors import NoMeeting
from heldproofs.moving import free_refs
from heldproofs.readings import reading_of


class Unknown:
    """A thing of which nothing is known but what was done with it: its head and the actions.

    The actions are those of a reading, with the value that was paid in place of its reading.
    """

    def __init__(self, head, actions):
        self.head = head
        self.actions = actions

    def after(self, action):
        """The thing that comes of one more action."""
        return Unknown(self.head, self.actions + (action,))


class Later:
    """The value of a part of a derivation, which is found when it is needed."""

    def __init__(self, performer, row, level, held):
        self.performer = performer
        self.row = row
        self.level = level
        self.held = held
        self.found = []

    def needed(self):
        """The value, which is found once."""
        if not self.found:
            self.found.append(self.performer.value_of(self.row, self.level, self.held))
        return self.found[0]


def now(value):
    """A value that may have to be found yet."""
    return value.needed() if isinstance(value, Later) else value


class Performer:
    """The performing of derivations, with the values of parts found at once or when they are needed."""

    def __init__(self, library, at_once):
        self.library = library
        self.at_once = at_once

    def value_of(self, derivation, level, things):
        """The value of a derivation at a level, from the values of what it refers to."""
        held = {ref: things[ref] for ref in things}
        row, here = derivation, level
        made = []
        # Bodies one after another, not calls within calls: a derivation may nest deeply.
        while row[0] not in ("own", "take", "offer"):
            if row[0] == "make":
                made.append(row)
                row = row[3]
            elif row[0] == "cite":
                row, here, held = self.library.entry(row[1])[1], 0, {}
            else:
                held[here] = self.brought_by(row, here, held)
                row, here = row[-1], here + 1
        value = self.ended(row, here, held)
        for _, name, index, _ in reversed(made):
            value = ("made", name, index, value)
        return value

    def ended(self, row, level, held):
        """The value of a row own, take or offer."""
        if row[0] == "own":
            return now(held[row[1]])
        if row[0] == "offer":
            return self.value_of_part(row[1], level, held), self.value_of_part(row[2], level, held)
        return self.function_of(row[1], level, held)

    def value_of_part(self, row, level, held):
        """The value of a part of a derivation, which may be left for later."""
        if self.at_once:
            return self.value_of(row, level, held)
        return Later(self, row, level, held)

    def function_of(self, body, level, held):
        """The function that a row take at this level yields."""
        def function(value):
            inner = {ref: held[ref] for ref in held}
            inner[level] = value
            return self.value_of(body, level + 1, inner)

        return function

    def brought_by(self, row, level, held):
        """The value of the hold that a row pick, pay, open or cut brings."""
        if row[0] == "cut":
            return self.value_of_part(row[3], level, held)
        thing = now(held[row[1]])
        if row[0] == "pick":
            return picked(thing, row[2])
        if row[0] == "pay":
            return bought(thing, row[2], self.value_of_part(row[3], level, held))
        return self.opened(thing, row[2], row[3])

    def opened(self, thing, name, index):
        """What the value of a defined word gives when it is opened."""
        if isinstance(thing, Unknown):
            return thing.after(("open", name, index))
        if not isinstance(thing, tuple):
            return thing(index)
        _, _, made, value = thing
        meeting = self.library.meeting(name, made, index)
        if meeting is None:
            raise NoMeeting(name, made, index)
        return self.value_of(meeting, 0, {"from": value})


def picked(thing, side):
    """One side of the value of a menu."""
    if isinstance(thing, Unknown):
        return thing.after(("pick", side))
    return thing[0] if side == "left" else thing[1]


def bought(thing, kind, value):
    """What the value of a trade gives for the value of its price."""
    if isinstance(thing, Unknown):
        return thing.after(("pay", kind, value))
    return thing(value)


def perform(library, derivation, things):
    """The value that a derivation yields from values for its holds."""
    return Performer(library, True).value_of(derivation, 0, things)


def read_back(library, derivation):
    """The reading of the bare derivations that runs of an accepted derivation end in."""
    things = {ref: Unknown(ref, ()) for ref in free_refs(derivation, 0)}
    found = []
    waiting = [(Performer(library, False).value_of(derivation, 0, things), 0)]
    while waiting:
        item = waiting.pop()
        if isinstance(item[0], str):
            found.append(item)
        else:
            waiting.extend(read_value(now(item[0]), item[1])[::-1])
    return reading_of(found)


def read_value(value, takes):
    """What a value inside of so many takes gives to a reading: signs, and values yet to be read."""
    if isinstance(value, Unknown):
        return read_unknown(value, takes)
    if not isinstance(value, tuple):
        return [("take",), (value(Unknown(takes, ())), takes + 1)]
    if value[0] == "made":
        return [("make", value[1], value[2]), (value[3], takes)]
    return [("offer",), (value[0], takes), (value[1], takes)]


def read_unknown(thing, takes):
    """What an unknown thing inside of so many takes gives to a reading."""
    found = [("head", thing.head, len(thing.actions))]
    for action in thing.actions:
        if action[0] == "pay":
            found.append(("pay", action[1]))
            found.append((action[2], takes))
        else:
            found.append(action)
    return found
