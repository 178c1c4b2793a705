"""The ranks of sentences, from which loads are reckoned, and their losses."""

from heldproofs.errors import NotSimple


def rank(library, sentence):
    """The rank of a sentence."""
    return rank_among(word_ranks(library), sentence)


def word_ranks(library):
    """A dictionary from the defined words of a library to their ranks."""
    ranks = {}
    # The makes and opens of a word contain no word that is defined later.
    for name in library:
        made = greatest_rank(ranks, library.makes_of(name))
        opened = greatest_rank(ranks, library.opens_of(name))
        ranks[name] = 1 + made + opened
    return ranks


def greatest_rank(ranks, sentences):
    """The greatest rank of some sentences, 0 for none."""
    return max([rank_among(ranks, sentence) for sentence in sentences], default=0)


def rank_among(ranks, sentence):
    """The rank of a sentence, from the ranks of the defined words."""
    if sentence[0] == "word":
        return ranks.get(sentence[1], 1)
    first = rank_among(ranks, sentence[-2])
    second = rank_among(ranks, sentence[-1])
    if sentence[0] == "menu":
        return max(first, second)
    return copies(sentence[1]) * first + second


def copies(kind):
    """How many copies of a part are paid or cut for one of this kind."""
    return 1 if kind == "once" else kind[0]


def loss(sentence):
    """The rows that a cut of a sentence without menus and stock takes with it."""
    if sentence[0] == "word":
        return 1
    if sentence[0] == "menu" or sentence[1] != "once":
        raise NotSimple()
    return 2 + loss(sentence[2]) + loss(sentence[3])
