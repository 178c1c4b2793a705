"""Worlds: finite tables in which sentences are true at some elements."""

from heldproofs.errors import BadWorld, NotOnce
from heldproofs.sentences import is_all_once


class World:
    """Elements with a product for each two, and the words that are true at each."""

    def __init__(self, products, facts):
        self.products = [list(row) for row in products]
        self.facts = {name: list(facts[name]) for name in facts}
        reason = fault_of(self.products, self.facts)
        if reason is not None:
            raise BadWorld(reason)

    def __len__(self):
        """The number of elements."""
        return len(self.products)

    def product(self, a, b):
        """The product of two elements."""
        return self.products[a][b]

    def has(self, element, sentence):
        """Whether a sentence is true at an element."""
        if not is_all_once(sentence):
            raise NotOnce()
        return truths(self.products, self.facts, sentence)[element]

    def fails(self, claim, places):
        """Whether the holds are true at their places and the goal is not true at the product of these."""
        require_once(claim)
        holds, goal = claim
        whole = 0
        for (_, _, sentence), place in zip(holds, places):
            if not truths(self.products, self.facts, sentence)[place]:
                return False
            whole = self.products[whole][place]
        return not truths(self.products, self.facts, goal)[whole]


def require_once(claim):
    """Raise an error if some kind in a claim or in its sentences is not once."""
    holds, goal = claim
    for _, kind, sentence in holds:
        if kind != "once" or not is_all_once(sentence):
            raise NotOnce()
    if not is_all_once(goal):
        raise NotOnce()


def truths(products, facts, sentence):
    """Whether a sentence is true at each of the elements, in a list."""
    numbers = range(len(products))
    if sentence[0] == "word":
        listed = facts.get(sentence[1], [])
        return [element in listed for element in numbers]
    first = truths(products, facts, sentence[-2])
    second = truths(products, facts, sentence[-1])
    if sentence[0] == "menu":
        return [left and right for left, right in zip(first, second)]
    priced = [element for element in numbers if first[element]]
    return [all([second[row[element]] for element in priced]) for row in products]


def fault_of(products, facts):
    """The first reason for which a table is no world, or None."""
    many = len(products)
    if many == 0 or not all([has_shape(row, many) for row in products]):
        return "shape"
    if products[0] != list(range(many)):
        return "unit"
    for a in range(many):
        for b in range(a):
            if products[a][b] != products[b][a]:
                return "order"
    if not does_grouping_hold(products):
        return "grouping"
    for name in facts:
        if not all([0 <= element < many for element in facts[name]]):
            return "fact"
    return None


def has_shape(row, many):
    """Whether a row of products has so many items, each of them an element."""
    return len(row) == many and all([0 <= item < many for item in row])


def does_grouping_hold(products):
    """Whether the product of three elements does not depend on how they are grouped."""
    for a, row in enumerate(products):
        for b, first in enumerate(row):
            # The product of a and b and then c, and of a and then of b and c, for all c.
            if products[first] != [products[a][inner] for inner in products[b]]:
                return False
    return True
