"""Showing that a claim has no derivation: tables that refute it, and quick doubts."""

from heldproofs.claims import bare_claim
from heldproofs.ends import Ends
from heldproofs.numbering import Numbering
from heldproofs.sentences import words_in


def refutes(library, table, claim):
    """Whether a table of bare claims contains a claim and a premise of each end of each of its claims."""
    numbering = Numbering(library)
    listed = {numbering.numbered(pairs, goal): True for pairs, goal in table}
    pairs, goal = bare_claim(claim)
    if numbering.numbered(pairs, goal) not in listed:
        return False
    for each in listed:
        if not all_ends_blocked(Ends(numbering, each, False), listed):
            return False
    return True


def all_ends_blocked(cursor, listed):
    """Whether each end of a claim has a premise that is listed."""
    while cursor.advance():
        premises = [cursor.premise(at)[0] for at in range(cursor.many)]
        if not any([premise in listed for premise in premises]):
            return False
    return True


def span(sentence, name):
    """The least and the greatest number of uses of a word that a sentence gives on one of its legs."""
    if sentence[0] == "word":
        return span_of_word(sentence[1], name)
    first = span(sentence[-2], name)
    second = span(sentence[-1], name)
    if sentence[0] == "menu":
        return min(first[0], second[0]), max(first[1], second[1])
    low, high = span_in(first, sentence[1])
    return second[0] - high, second[1] - low


def span_of_word(word, name):
    """The span of a word alone."""
    return (1, 1) if word == name else (0, 0)


def span_in(pair, kind):
    """The span of what is held or paid in a kind, from the span of one."""
    if kind == "once":
        return pair
    return min(0, kind[0] * pair[0]), max(0, kind[0] * pair[1])


def joined(first, second):
    """The span of two things together."""
    return first[0] + second[0], first[1] + second[1]


def doubts(claim):
    """The ascending list of the words that some leg of the goal needs out of balance."""
    holds, goal = claim
    given = {name: (0, 0) for name in words_in(goal)}
    for _, kind, sentence in holds:
        # The span of a word that does not occur is (0, 0).
        for name in words_in(sentence):
            given[name] = joined(given.get(name, (0, 0)), span_in(span(sentence, name), kind))
    return sorted([name for name in given if not is_balanced(goal, name, given[name])])


def is_balanced(goal, name, given):
    """Whether what is given of a word can be what each leg of the goal needs."""
    if goal[0] == "word":
        needed, _ = span_of_word(goal[1], name)
        return given[0] <= needed <= given[1]
    if goal[0] == "menu":
        return is_balanced(goal[1], name, given) and is_balanced(goal[2], name, given)
    return is_balanced(goal[3], name, joined(given, span_in(span(goal[2], name), goal[1])))
