"""Sentences: words, menus and trades."""

from heldproofs.errors import BadKind, BadName
from heldproofs.kinds import is_kind
from heldproofs.names import is_name


def word(name):
    """The sentence that is one word."""
    if not is_name(name):
        raise BadName(name)
    return ("word", name)


def menu(left, right):
    """The sentence of which each use picks one of two sides."""
    return ("menu", left, right)


def trade(price, goods, *, kind="once"):
    """The sentence that gives the goods for the price, held in the kind."""
    if not is_kind(kind):
        raise BadKind(kind)
    return ("trade", kind, price, goods)


def names_within(sentence):
    """The names of all words in a sentence from left to right, with repetition."""
    names = []
    waiting = [sentence]
    while waiting:
        here = waiting.pop()
        if here[0] == "word":
            names.append(here[1])
        else:
            # The last two items are the parts; the left one is to be popped first.
            waiting.append(here[-1])
            waiting.append(here[-2])
    return names


def size(sentence):
    """The number of words in a sentence, counted with repetition."""
    return len(names_within(sentence))


def words_in(sentence):
    """The different words in a sentence, in the order of first occurrence."""
    found = {}
    for name in names_within(sentence):
        found[name] = True
    return list(found)


def legs(sentence):
    """The ways in which a sentence ends in a word, each with its prices."""
    if sentence[0] == "word":
        return [([], sentence[1])]
    if sentence[0] == "menu":
        return legs(sentence[1]) + legs(sentence[2])
    first = (sentence[1], sentence[2])
    return [([first] + prices, name) for prices, name in legs(sentence[3])]


def is_all_once(sentence):
    """Whether each kind in a sentence is once."""
    waiting = [sentence]
    while waiting:
        here = waiting.pop()
        if here[0] != "word":
            waiting.append(here[-1])
            waiting.append(here[-2])
        if here[0] == "trade" and here[1] != "once":
            return False
    return True
