"""The plays of a derivation, one by one."""

from heldproofs.tallies import Reckoning, power


class PlayList:
    """Some plays, each a pair of its rows and its load; the list is reckoned as tallies are."""

    def __init__(self, pairs):
        self.pairs = pairs

    def __add__(self, other):
        """The plays of both."""
        return PlayList(self.pairs + other.pairs)

    def __mul__(self, other):
        """A play for each pair of a play of the one and a play of the other."""
        return PlayList([(rows + more, load + further) for rows, load in self.pairs for more, further in other.pairs])

    def copied(self, n):
        """A play for each choice of n plays, each chosen for itself."""
        return power(self, n, PlayList([(0, 0)]))

    def taller(self, k):
        """The plays with k more rows each."""
        return PlayList([(rows + k, load) for rows, load in self.pairs])

    def loaded(self, k):
        """The plays with k more load each."""
        return PlayList([(rows, load + k) for rows, load in self.pairs])

    def cut(self, factor):
        """The plays with as much more load each as a cut of them has."""
        return PlayList([(rows, load + factor * (rows - 1)) for rows, load in self.pairs])


def plays(library, derivation):
    """The list of the rows and the load of each play of a derivation."""
    # A reckoning may give its own list back; the caller gets a new one.
    return list(Reckoning(library, PlayList([(1, 0)])).of_whole(derivation).pairs)
