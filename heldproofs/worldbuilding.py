"""Building worlds that fail claims without derivations."""

from heldproofs.errors import WorldTooLarge
from heldproofs.library import Library
from heldproofs.searching import Searcher
from heldproofs.sentences import legs, words_in
from heldproofs.sentencetext import format_sentence
from heldproofs.worlds import World, require_once


class Gathering:
    """The collections of a claim: tuples of the texts of sentences in ascending order."""

    def __init__(self):
        self.by_text = {}

    def gathered(self, sentences):
        """The collection of some sentences."""
        for sentence in sentences:
            self.by_text[format_sentence(sentence)] = sentence
        return tuple(sorted([format_sentence(sentence) for sentence in sentences]))

    def first_ones(self, claim):
        """The collections of all holds of a claim together with the prices of a leg of its goal."""
        held = [sentence for _, _, sentence in claim[0]]
        return [self.gathered(held + prices_of(prices)) for prices, _ in legs(claim[1])]

    def next_ones(self, collection):
        """The collections that have to be there if this one is."""
        found = []
        for at, text in enumerate(collection):
            rest = collection[:at] + collection[at + 1:]
            found.append(rest)
            found.extend([tuple(sorted(rest + other)) for other in self.replacements(text)])
        return found

    def replacements(self, text):
        """The collections that may stand in place of a sentence: the prices of a leg of one of its prices."""
        inner = []
        for prices, _ in legs(self.by_text[text]):
            for price in prices_of(prices):
                inner.extend(legs(price))
        return [self.gathered(prices_of(prices)) for prices, _ in inner]

    def all_of(self, claim, most):
        """The list of the collections of a claim, the empty one first; None if they are more than so many."""
        found = {}
        waiting = self.first_ones(claim)
        while waiting and len(found) <= most:
            here = waiting.pop()
            if here not in found:
                found[here] = True
                waiting.extend(self.next_ones(here))
        if len(found) > most:
            return None
        return [()] + [each for each in found if each != ()]


def prices_of(prices):
    """The sentences of the prices of a leg."""
    return [sentence for _, sentence in prices]


def build_world(claim, *, limit=40):
    """A world that fails a claim and the places of its holds; None if some derivation shows the claim."""
    require_once(claim)
    gathering = Gathering()
    # One more element stands for all that is no collection.
    collections = gathering.all_of(claim, limit - 1)
    if collections is None:
        raise WorldTooLarge(limit)
    searcher = Searcher(Library())
    if searcher.seek(claim).outcome == "shown":
        return None
    numbers = {collection: number for number, collection in enumerate(collections)}
    facts = {}
    for name in words_of(claim):
        facts[name] = places_of(searcher, gathering, collections, name) + [len(collections)]
    places = [numbers[(format_sentence(sentence),)] for _, _, sentence in claim[0]]
    return World(products_of(collections, numbers), facts), places


def words_of(claim):
    """The words of a claim, some of them more than once."""
    found = words_in(claim[1])
    for _, _, sentence in claim[0]:
        found = found + words_in(sentence)
    return found


def places_of(searcher, gathering, collections, name):
    """The numbers of the collections that give a word, if they are held once each."""
    found = []
    for number, collection in enumerate(collections):
        holds = [(f"h{at}", "once", gathering.by_text[text]) for at, text in enumerate(collection)]
        if searcher.seek((tuple(holds), ("word", name))).outcome == "shown":
            found.append(number)
    return found


def products_of(collections, numbers):
    """The union of each two collections; what is no collection has the number behind the last one."""
    beyond = len(collections)
    rows = []
    for first in collections:
        unions = [numbers.get(tuple(sorted(first + second)), beyond) for second in collections]
        rows.append(unions + [beyond])
    rows.append([beyond] * (beyond + 1))
    return rows
