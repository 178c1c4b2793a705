"""Reckoning all plays of a derivation together, without listing them."""

from heldproofs.citing import meetings_of, reached_entries, reached_opens
from heldproofs.ranks import copies, rank_among, word_ranks
from heldproofs.rows import heads, premise_count


class Tally:
    """The number of some plays, the sum of their rows and the sum of their loads."""

    def __init__(self, plays, rows, load):
        self.plays = plays
        self.rows = rows
        self.load = load

    def __add__(self, other):
        """The plays of both."""
        return Tally(self.plays + other.plays, self.rows + other.rows, self.load + other.load)

    def __mul__(self, other):
        """A play for each pair of a play of the one and a play of the other."""
        rows = self.rows * other.plays + other.rows * self.plays
        load = self.load * other.plays + other.load * self.plays
        return Tally(self.plays * other.plays, rows, load)

    def copied(self, n):
        """A play for each choice of n plays, each chosen for itself."""
        return power(self, n, Tally(1, 0, 0))

    def taller(self, k):
        """The plays with k more rows each."""
        return Tally(self.plays, self.rows + k * self.plays, self.load)

    def loaded(self, k):
        """The plays with k more load each."""
        return Tally(self.plays, self.rows, self.load + k * self.plays)

    def cut(self, factor):
        """The plays with as much more load each as a cut of them has."""
        return Tally(self.plays, self.rows, self.load + factor * (self.rows - self.plays))

    def triple(self):
        """The three numbers."""
        return self.plays, self.rows, self.load


class Length:
    """The greatest number of rows of some plays; it is reckoned as tallies are."""

    def __init__(self, rows):
        self.rows = rows

    def __add__(self, other):
        """The plays of both."""
        return Length(max(self.rows, other.rows))

    def __mul__(self, other):
        """A play for each pair of a play of the one and a play of the other."""
        return Length(self.rows + other.rows)

    def copied(self, n):
        """A play for each choice of n plays, each chosen for itself."""
        return Length(n * self.rows)

    def taller(self, k):
        """The plays with k more rows each."""
        return Length(self.rows + k)

    def loaded(self, k):
        """Loads do not matter here."""
        return self

    def cut(self, factor):
        """Loads do not matter here."""
        return self


def power(base, n, one):
    """The product of n times the same, with few products."""
    made = one
    square = base
    left = n
    while left > 0:
        if left % 2 == 1:
            made = made * square
        left = left // 2
        if left > 0:
            square = square * square
    return made


def tally(library, derivation):
    """The tally of all plays of a derivation."""
    return Reckoning(library, Tally(1, 1, 0)).of_whole(derivation)


def greatest_play(library, derivation):
    """The greatest number of rows of a play of a derivation."""
    return Reckoning(library, Length(1)).of_whole(derivation).rows


class Reckoning:
    """What is known about parts of a library, each reckoned once: tallies or lengths.

    The unit is what a row own has; all else is made of it.
    """

    def __init__(self, library, unit):
        self.library = library
        self.unit = unit
        self.ranks = word_ranks(library)
        self.entries = {}
        self.meetings = {}

    def of_whole(self, derivation):
        """What a derivation has, with all that it needs of the library."""
        names = reached_entries(self.library, derivation)
        cited = [self.library.entry(name)[1] for name in names]
        for word, index in reached_opens(self.library, cited + [derivation]):
            met = [self.of_part(meeting) for meeting in meetings_of(self.library, word, index)]
            self.meetings[(word, index)] = met
        for name, inner in zip(names, cited):
            self.entries[name] = self.of_part(inner)
        return self.of_part(derivation)

    def of_part(self, derivation):
        """What a derivation has, when all that it needs is reckoned."""
        made = []
        for head in reversed(heads(derivation)):
            above = [made.pop() for _ in range(premise_count(head[0]))]
            made.append(self.of_row(head, above))
        return made[0]

    def of_row(self, head, above):
        """What a row has, from what its premises have."""
        if head[0] == "own":
            return self.unit
        if head[0] == "cite":
            return self.entries[head[1]].taller(1).loaded(1)
        if head[0] == "offer":
            return above[0].taller(1) + above[1].taller(1)
        if head[0] == "pay":
            return (in_copies(above[0], head[2]) * above[1]).taller(1)
        if head[0] == "cut":
            kind, sentence = head[1], head[2]
            factor = copies(kind) * rank_among(self.ranks, sentence)
            return (in_copies(above[0], kind) * above[1]).cut(factor)
        made = above[0]
        if head[0] == "open":
            for met in self.meetings.get((head[2], head[3]), []):
                made = made * met
        return made.taller(1)


def in_copies(inner, kind):
    """What a part has that is paid or cut in a kind."""
    if kind == "once":
        return inner
    return inner.taller(1).copied(kind[0])
