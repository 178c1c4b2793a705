"""Links: parting a bare derivation between two sides of its holds.

A part of a reading stands on the side of its goal. Where it does something with a
hold of the other side, a link comes between. The other side gives the link: a
trade for all that it needs of this side, for what is wanted here.
"""

from heldproofs.claims import hold_of
from heldproofs.errors import NotPlain
from heldproofs.kinds import nested
from heldproofs.moving import moved
from heldproofs.readings import read_bare
from heldproofs.rules import picked_side
from heldproofs.sentences import words_in

OTHER_PLACE = {"goal": "hold", "hold": "goal"}


def vocabulary(library, sentence):
    """The ascending list of the words of a sentence, with those of its defined words, and so on."""
    found = {}
    waiting = words_in(sentence)
    while waiting:
        name = waiting.pop()
        if name not in found:
            found[name] = True
            for inner in library.makes_of(name) + library.opens_of(name):
                waiting.extend(words_in(inner))
    return sorted(list(found))


def is_plain(library, claim):
    """Whether no menu stands at a goal place of a claim."""
    holds, goal = claim
    seen = {}
    waiting = [("goal", goal)] + [("hold", sentence) for _, _, sentence in holds]
    while waiting:
        place, sentence = waiting.pop()
        if sentence[0] == "menu" and place == "goal":
            return False
        if sentence[0] != "word":
            waiting.append((place, sentence[-1]))
            waiting.append((OTHER_PLACE[place] if sentence[0] == "trade" else place, sentence[-2]))
        elif (place, sentence[1]) not in seen:
            seen[(place, sentence[1])] = True
            waiting.extend([(place, inner) for inner in defining(library, place, sentence[1])])
    return True


def defining(library, place, name):
    """The sentences that a word stands for at a place."""
    return library.makes_of(name) if place == "goal" else library.opens_of(name)


def links(library, claim, derivation, left):
    """The links from the holds in left to the others and the goal, and the rest, which uses them."""
    if not is_plain(library, claim):
        raise NotPlain()
    reading = read_bare(derivation)
    for name in left:
        hold_of(claim, name)
    holds, goal = claim
    scope = {name: ("left" if name in left else "right", sentence, name) for name, _, sentence in holds}
    linked = []
    rest = Parting(library, holds).parted(reading, goal, Place("right", "once", scope, 0), linked)
    return linked, rest


def join_links(linked, rest):
    """The derivation that cuts each link with what is left."""
    level = len(linked)
    names = {}
    for number, (name, _, _, _) in enumerate(linked):
        names[name] = number
    made = moved(rest, 0, level, names)
    for _, kind, sentence, given in reversed(linked):
        level -= 1
        made = ("cut", kind, sentence, moved(given, 0, level, {}), made)
    return made


class Place:
    """Where a part of a reading stands.

    It has a side, and the kind into which it is packed since that side began. The scope tells the side, the
    sentence and the name of what a reference of the reading stands for; takes is the number of takes around.
    """

    def __init__(self, side, box, scope, takes):
        self.side = side
        self.box = box
        self.scope = scope
        self.takes = takes

    def within(self, kind):
        """The place of what is paid here in a kind."""
        return Place(self.side, nested(self.box, kind), self.scope, self.takes)

    def across(self, side):
        """The place on a side that begins here."""
        return Place(side, "once", self.scope, self.takes)

    def above_take(self, sentence, name):
        """The place above a take that brings a sentence, which is to be known by a name."""
        scope = {ref: self.scope[ref] for ref in self.scope}
        scope[self.takes] = (self.side, sentence, name)
        return Place(self.side, self.box, scope, self.takes + 1)


class Parting:
    """The making of links. Everything is made as a derivation at level 0, with new names for its holds."""

    def __init__(self, library, holds):
        self.library = library
        self.used = [name for name, _, _ in holds]
        self.count = 0

    def new_name(self):
        """A name that is not in use yet."""
        self.count += 1
        while f"l{self.count}" in self.used:
            self.count += 1
        return f"l{self.count}"

    def parted(self, reading, goal, place, linked):
        """The derivation of a goal for a reading at a place; the links that it uses are added to those linked."""
        rows = []
        while reading[0] != "head":
            if reading[0] == "take":
                rows.append(("take", self.new_name()))
                place = place.above_take(goal[2], rows[-1][1])
                goal = goal[3]
            else:
                rows.append(reading[:3])
                goal = self.library.makes_of(reading[1])[reading[2]]
            reading = reading[-1]
        made = self.used_head(reading, place, linked)
        for row in reversed(rows):
            made = under_take(row[1], made) if row[0] == "take" else row + (made,)
        return made

    def used_head(self, reading, place, linked):
        """The derivation for a head and its actions at a place."""
        side, sentence, name = place.scope[reading[1]]
        if side == place.side:
            made, _ = self.followed(name, sentence, reading[2], place, linked)
            return made
        needed = []
        given, wanted = self.followed(name, sentence, reading[2], place.across(side), needed)
        for hold, kind, price, _ in reversed(needed):
            given = under_take(hold, given)
            wanted = ("trade", kind, price, wanted)
        link = self.new_name()
        linked.append((link, place.box, wanted, given))
        return in_rows(link, [("pay", kind, part) for _, kind, _, part in needed])

    def followed(self, name, sentence, actions, place, linked):
        """The derivation for actions on a hold of the side of a place, and the sentence in which they end."""
        done = []
        for action in actions:
            if action[0] == "pay":
                _, kind, reading = action
                done.append(("pay", kind, self.parted(reading, sentence[2], place.within(kind), linked)))
                sentence = sentence[3]
            else:
                done.append(action)
                sentence = self.after(sentence, action)
        return in_rows(name, done), sentence

    def after(self, sentence, action):
        """What comes of a sentence by an action other than pay."""
        if action[0] == "pick":
            return picked_side(sentence, action[1])
        return self.library.opens_of(action[1])[action[2]]


def under_take(name, derivation):
    """The derivation under a row take that brings the hold of a name."""
    return ("take", moved(derivation, 0, 1, {name: 0}))


def in_rows(name, actions):
    """The derivation that does actions one after another; pay actions have a derivation at level 0."""
    refs = [name] + list(range(len(actions)))
    made = ("own", refs[-1])
    for level in reversed(range(len(actions))):
        action = actions[level]
        if action[0] == "pay":
            made = ("pay", refs[level], action[1], moved(action[2], 0, level, {}), made)
        else:
            made = (action[0], refs[level]) + action[1:] + (made,)
    return made
