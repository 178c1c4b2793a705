"""Second, plain definitions for points 69 to 73: spans, worlds and places."""

import itertools

from heldproofs.sentences import legs
from heldproofs.sentencetext import format_sentence


def plain_span(sentence, name):
    """Point 69, by the legs."""
    lows, highs = [], []
    for prices, end in legs(sentence):
        taken = [in_kind(kind, plain_span(price, name)) for kind, price in prices]
        lows.append((end == name) - sum([high for low, high in taken]))
        highs.append((end == name) - sum([low for low, high in taken]))
    return min(lows), max(highs)


def in_kind(kind, pair):
    if kind == "once":
        return pair
    return min(0, kind[0] * pair[0]), max(0, kind[0] * pair[1])


def words_of(claim):
    found = set()
    waiting = [claim[1]] + [sentence for name, kind, sentence in claim[0]]
    while waiting:
        sentence = waiting.pop()
        if sentence[0] == "word":
            found.add(sentence[1])
        else:
            waiting += sentence[-2:]
    return found


def plain_doubts(claim):
    """Point 69: the words out of balance for some leg of the goal."""
    found = []
    for name in sorted(words_of(claim)):
        for prices, end in legs(claim[1]):
            held = [(kind, sentence) for other, kind, sentence in claim[0]] + prices
            given = [in_kind(kind, plain_span(sentence, name)) for kind, sentence in held]
            if not sum([low for low, high in given]) <= (end == name) <= sum([high for low, high in given]):
                found.append(name)
                break
    return found


def plain_fault_of_world(products, facts):
    """Point 70: the reason of BadWorld, or None."""
    many = len(products)
    numbers = range(many)
    if many < 1 or [row for row in products if len(row) != many or [item for item in row if item not in numbers]]:
        return "shape"
    if [a for a in numbers if products[0][a] != a]:
        return "unit"
    if [1 for a, b in itertools.product(numbers, numbers) if products[a][b] != products[b][a]]:
        return "order"
    for a, b, c in itertools.product(numbers, numbers, numbers):
        if products[a][products[b][c]] != products[products[a][b]][c]:
            return "grouping"
    if [item for listed in facts.values() for item in listed if item not in numbers]:
        return "fact"
    return None


def plain_has(products, facts, element, sentence):
    """Point 71."""
    if sentence[0] == "word":
        return element in facts.get(sentence[1], [])
    if sentence[0] == "menu":
        return plain_has(products, facts, element, sentence[1]) and plain_has(products, facts, element, sentence[2])
    return all([plain_has(products, facts, products[element][v], sentence[3])
                for v in range(len(products)) if plain_has(products, facts, v, sentence[2])])


def plain_fails(products, facts, claim, places):
    """Point 71."""
    whole = 0
    for (name, kind, sentence), place in zip(claim[0], places):
        if not plain_has(products, facts, place, sentence):
            return False
        whole = products[whole][place]
    return not plain_has(products, facts, whole, claim[1])


def plain_collections(claim):
    """Point 72: the collections of a claim, each a sorted tuple of sentences; by going on until nothing is new."""
    def collected(sentences):
        return tuple(sorted(sentences, key=format_sentence))

    held = [sentence for name, kind, sentence in claim[0]]
    found = {collected(held + [price for kind, price in prices]) for prices, end in legs(claim[1])}
    while True:
        more = set(found)
        for each in found:
            for many in range(len(each)):
                more |= set(itertools.combinations(each, many))
            for at, sentence in enumerate(each):
                for prices, end in legs(sentence):
                    for kind, price in prices:
                        for inner, last in legs(price):
                            rest = list(each[:at] + each[at + 1:])
                            more.add(collected(rest + [sentence for kind, sentence in inner]))
        if more == found:
            return found
        found = more


def plain_vocabulary(library, sentence):
    """Point 73."""
    if sentence[0] != "word":
        return sorted(set(plain_vocabulary(library, sentence[-2]) + plain_vocabulary(library, sentence[-1])))
    more = [name for inner in library.makes_of(sentence[1]) + library.opens_of(sentence[1])
            for name in plain_vocabulary(library, inner)]
    return sorted(set([sentence[1]] + more))


def has_menu_at_goal(library, place, sentence):
    """Point 73: whether some menu stands at a goal place, if the sentence stands at this place."""
    other = {"goal": "hold", "hold": "goal"}[place]
    if sentence[0] == "menu":
        return place == "goal" or any([has_menu_at_goal(library, place, side) for side in sentence[1:]])
    if sentence[0] == "trade":
        return has_menu_at_goal(library, other, sentence[2]) or has_menu_at_goal(library, place, sentence[3])
    inner = library.makes_of(sentence[1]) if place == "goal" else library.opens_of(sentence[1])
    return any([has_menu_at_goal(library, place, each) for each in inner])


def plain_is_plain(library, claim):
    """Point 73."""
    return not has_menu_at_goal(library, "goal", claim[1]) and not any(
        [has_menu_at_goal(library, "hold", sentence) for name, kind, sentence in claim[0]])
