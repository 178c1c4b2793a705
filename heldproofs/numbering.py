"""Sentences by numbers, so that what is found out about a claim can be kept under a key.

A numbered claim is a pair like a bare claim, with a number in place of each
sentence. Its pairs stand in the order of a bare claim.
"""

from heldproofs.routes import prices_on, routes
from heldproofs.sentencetext import format_sentence


class Numbering:
    """The numbers of sentences, and what is asked about them again and again."""

    def __init__(self, library):
        self.library = library
        self.by_text = {}
        self.texts = []
        self.sentences = []
        self.inner = {}
        self.grouped = {}
        self.leading = {}

    def number_of(self, sentence):
        """The number of a sentence."""
        text = format_sentence(sentence)
        if text not in self.by_text:
            self.by_text[text] = len(self.texts)
            self.texts.append(text)
            self.sentences.append(sentence)
        return self.by_text[text]

    def numbered(self, pairs, goal):
        """The numbered claim of some pairs in any order and a goal."""
        items = [(kind, self.number_of(sentence), at) for at, (kind, sentence) in enumerate(pairs)]
        claim, _ = self.arranged(items, self.number_of(goal))
        return claim

    def told(self, claim):
        """The bare claim of a numbered claim."""
        pairs, goal = claim
        return tuple([(kind, self.sentences[number]) for kind, number in pairs]), self.sentences[goal]

    def arranged(self, items, goal):
        """The numbered claim of a goal and triples of a kind, a number and an origin; and the list of the origins.

        The origins come in the order of the pairs; of equal pairs, in the order of the triples.
        """
        ordered = sorted(items, key=self.place)
        return (tuple([(kind, number) for kind, number, _ in ordered]), goal), [item[2] for item in ordered]

    def place(self, item):
        """Where a triple stands among others by its kind and its number."""
        kind = item[0]
        if kind == "once":
            return self.texts[item[1]], 0, 0, 0
        return self.texts[item[1]], 1, kind[0], kind[1]

    def parts(self, number):
        """The numbers of the parts of a menu or a trade, or of the makes of a word."""
        if number not in self.inner:
            sentence = self.sentences[number]
            found = list(sentence[-2:])
            if sentence[0] == "word":
                found = self.library.makes_of(sentence[1])
            self.inner[number] = tuple([self.number_of(inner) for inner in found])
        return self.inner[number]

    def routes_to(self, number, name):
        """The routes of a sentence that end in a word: tuples of the actions and of the numbered prices."""
        if (number, name) not in self.leading:
            found = [(actions, self.priced(actions)) for actions in self.endings(number).get(name, [])]
            self.leading[(number, name)] = tuple(found)
        return self.leading[(number, name)]

    def endings(self, number):
        """The routes of a sentence, by the words in which they end."""
        if number not in self.grouped:
            found = {}
            for actions, name in routes(self.library, self.sentences[number]):
                found.setdefault(name, []).append(actions)
            self.grouped[number] = found
        return self.grouped[number]

    def priced(self, actions):
        """The prices on a route, each a pair of a kind and a number."""
        return [(kind, self.number_of(price)) for kind, price in prices_on(actions)]
