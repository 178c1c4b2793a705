"""Looking for bare derivations of claims."""

from heldproofs.claims import bare_claim
from heldproofs.finding import Finder
from heldproofs.sentencetext import format_sentence


class Answer:
    """What a search has found."""

    def __init__(self, outcome, derivation, table, looked):
        self.outcome = outcome
        self.derivation = derivation
        self.table = table
        self.looked = looked


def search(library, claim, *, limit=None, order="forward"):
    """Look for a bare derivation of a claim, by looking at no more ends than the limit says."""
    return answer_of(Finder(library, order == "backward"), claim, limit)


def answer_of(finder, claim, limit):
    """Settle a claim by a finder that may remember something."""
    holds, goal = claim
    numbering = finder.numbering
    items = [(kind, numbering.number_of(sentence), name) for name, kind, sentence in holds]
    numbered, names = numbering.arranged(items, numbering.number_of(goal))
    looked = finder.settle(numbered, limit)
    if numbered not in finder.results:
        return Answer("open", None, None, looked)
    if finder.results[numbered][0]:
        return Answer("shown", finder.derivation_of(numbered, names), None, looked)
    return Answer("refuted", None, finder.refutation_of(numbered), looked)


def remembered_key(claim, by_text):
    """The numbered claim of a claim, by the numbers that the texts of sentences have so far.

    A sentence without a number gets -1, which stands in no claim that is remembered.
    """
    pairs, goal = bare_claim(claim)
    numbered = [(kind, by_text.get(format_sentence(sentence), -1)) for kind, sentence in pairs]
    return tuple(numbered), by_text.get(format_sentence(goal), -1)


class Searcher:
    """A search that remembers which bare claims are shown or refuted, until the library changes."""

    def __init__(self, library, *, limit=None, order="forward"):
        self.library = library
        self.limit = limit
        self.order = order
        self.finder = Finder(library, order == "backward")
        self.changes = library.changes

    def seek(self, claim):
        """Look for a bare derivation of a claim, like search."""
        if self.changes != self.library.changes:
            self.clear()
        return answer_of(self.finder, claim, self.limit)

    def clear(self):
        """Forget all that was found."""
        self.finder = Finder(self.library, self.order == "backward")
        self.changes = self.library.changes

    def __len__(self):
        """The number of bare claims that are remembered."""
        if self.changes != self.library.changes:
            return 0
        return len(self.finder.results)

    def __contains__(self, claim):
        """Whether the bare form of a claim is remembered."""
        if self.changes != self.library.changes:
            return False
        return remembered_key(claim, self.finder.numbering.by_text) in self.finder.results
