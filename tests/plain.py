"""Second, plain definitions to test against: slow, and close to the words of the document."""

import itertools

from heldproofs.moving import moved
from heldproofs.sentencetext import format_sentence

ROWS = ("own", "take", "offer", "pick", "pay", "make", "open", "cut", "cite")


def pair_key(pair):
    kind, sentence = pair
    return (format_sentence(sentence), (0, 0, 0) if kind == "once" else (1,) + kind)


def bare(pairs, goal):
    """A bare claim in the order of point 18."""
    return (tuple(sorted(pairs, key=pair_key)), goal)


def plain_ways(library, sentence):
    """Point 62."""
    if sentence[0] == "word":
        more = [way for inner in library.opens_of(sentence[1]) for way in plain_ways(library, inner)]
        return [([], sentence[1])] + more
    if sentence[0] == "menu":
        return plain_ways(library, sentence[1]) + plain_ways(library, sentence[2])
    return [([(sentence[1], sentence[2])] + prices, name) for prices, name in plain_ways(library, sentence[3])]


def weight(kind, price):
    """How many uses of a pair one use inside of a price takes away; None if it cannot get any."""
    if price == "once":
        return 1
    if kind == "once" or price[1] > kind[1]:
        return None
    return price[0]


def spreads(kind, prices):
    """All full ways to share one pair: lists of what each price gets, None for nothing."""
    weights = [weight(kind, price) for price in prices]
    if kind == "once":
        return [["once" if at == index else None for index in range(len(prices))]
                for at in range(len(prices)) if weights[at] == 1]
    uses, days = kind
    found = []
    for numbers in itertools.product(*[range(uses // w + 1) if w else [0] for w in weights]):
        left = uses - sum([number * (w or 0) for number, w in zip(numbers, weights)])
        if left >= 0 and not [w for w in weights if w and w <= left]:
            found.append([(number, days - (0 if price == "once" else price[1])) if number else None
                          for number, price in zip(numbers, prices)])
    return found


def plain_sharings(rest, prices):
    """Point 64: for each full sharing the list of the pairs of each price."""
    if not prices:
        return [] if "once" in [kind for kind, sentence in rest] else [[]]
    found = []
    for chosen in itertools.product(*[spreads(kind, [kind for kind, price in prices]) for kind, sentence in rest]):
        found.append([[(spread[at], sentence) for spread, (kind, sentence) in zip(chosen, rest) if spread[at]]
                      for at in range(len(prices))])
    return found


def spent(pairs, at):
    """The pairs when one use of one of them is spent."""
    kind, sentence = pairs[at]
    left = [] if kind == "once" or kind[0] == 1 else [((kind[0] - 1, kind[1]), sentence)]
    return list(pairs[:at]) + left + list(pairs[at + 1:])


def plain_ends(library, pairs, goal):
    """Point 63: each make, and each way of each of the different pairs with each full sharing."""
    pairs = list(pairs)
    if goal[0] == "trade":
        return [[bare(pairs + [(goal[1], goal[2])], goal[3])]]
    if goal[0] == "menu":
        return [[bare(pairs, goal[1]), bare(pairs, goal[2])]]
    found = [[bare(pairs, make)] for make in library.makes_of(goal[1])]
    for at in range(len(pairs)):
        if pairs[at] in pairs[:at]:
            continue
        for prices, name in plain_ways(library, pairs[at][1]):
            if name == goal[1]:
                for sharing in plain_sharings(spent(pairs, at), prices):
                    found.append([bare(given, price) for given, (kind, price) in zip(sharing, prices)])
    return found


class Shown:
    """Point 65: whether bare claims are shown, by their ends."""

    def __init__(self, library):
        self.library = library
        self.known = {}
        self.ends = {}

    def __call__(self, claim):
        if claim not in self.known:
            self.ends[claim] = plain_ends(self.library, *claim)
            self.known[claim] = any(all(map(self, end)) for end in self.ends[claim])
        return self.known[claim]


def is_refutation(library, table, claim):
    """Point 67."""
    claims = {bare(*each) for each in table}
    return bare(*claim) in claims and all(
        any(premise in claims for premise in end) for each in claims for end in plain_ends(library, *each))


def plain_counts(row, level):
    """Point 28 for all references at once, in triples."""
    def plus(first, second):
        return {ref: tuple(map(sum, zip(first.get(ref, (0, 0, 0))[:2], second.get(ref, (0, 0, 0))[:2])))
                + (max(first.get(ref, (0, 0, 0))[2], second.get(ref, (0, 0, 0))[2]),) for ref in {**first, **second}}

    def either(first, second):
        pairs = {ref: (first.get(ref, (0, 0, 0)), second.get(ref, (0, 0, 0))) for ref in {**first, **second}}
        return {ref: (min(a[0], b[0]), max(a[1], b[1]), max(a[2], b[2])) for ref, (a, b) in pairs.items()}

    def boxed(found, kind):
        if kind == "once":
            return found
        return {ref: (0, kind[0] * most, kind[1] + days) for ref, (least, most, days) in found.items()}

    name = row[0]
    if name == "cite":
        return {}
    if name == "own":
        return {row[1]: (1, 1, 0)}
    if name == "offer":
        return either(plain_counts(row[1], level), plain_counts(row[2], level))
    if name == "make":
        return plain_counts(row[3], level)
    found = plain_counts(row[-1], level + 1)
    found.pop(level, None)
    if name == "cut":
        return plus(found, boxed(plain_counts(row[3], level), row[1]))
    if name == "take":
        return found
    found = plus(found, {row[1]: (1, 1, 0)})
    return plus(found, boxed(plain_counts(row[3], level), row[2])) if name == "pay" else found


def does_fit(triple, kind):
    if kind == "once":
        return triple[:2] == (1, 1)
    return triple[1] <= kind[0] and triple[2] <= kind[1]


def plain_faults(library, holds, goal, row, path=()):
    """Points 29 to 31: the faults in their order; holds are those of the claim and the new ones."""
    level = len([ref for ref, kind, sentence in holds if isinstance(ref, int)])
    found = {ref: sentence for ref, kind, sentence in holds}
    name, sentence = row[0], None
    if name in ("own", "pick", "pay", "open"):
        if row[1] not in found:
            yield path, "hold"
            return
        sentence = found[row[1]]
    new, goals, reason = None, [], None
    if name == "own":
        reason = None if sentence == goal else "goal"
    elif name == "take":
        reason = None if goal[0] == "trade" else "goal"
        if not reason:
            new, goals = goal[1:3], [goal[3]]
    elif name == "offer":
        reason = None if goal[0] == "menu" else "goal"
        goals = goal[1:]
    elif name == "pick":
        reason = None if sentence[0] == "menu" else "sentence"
        if not reason:
            new, goals = ("once", sentence[1 if row[2] == "left" else 2]), [goal]
    elif name == "pay":
        reason = "sentence" if sentence[0] != "trade" else "kind" if sentence[1] != row[2] else None
        if not reason:
            new, goals = ("once", sentence[3]), [sentence[2], goal]
    elif name == "make":
        made = dict(enumerate(library.makes_of(row[1])))
        reason = "goal" if goal != ("word", row[1]) else None if row[2] in made else "word"
        goals = [made.get(row[2])]
    elif name == "open":
        opened = dict(enumerate(library.opens_of(row[2])))
        reason = "sentence" if sentence != ("word", row[2]) else None if row[3] in opened else "word"
        new, goals = ("once", opened.get(row[3])), [goal]
    elif name == "cut":
        new, goals = (row[1], row[2]), [row[2], goal]
    elif name == "cite":
        reason = "entry" if row[1] not in library.entry_names() else None
        if not reason and library.entry(row[1])[0] != goal:
            reason = "goal"
    if reason:
        yield path, reason
        return
    above = row[len(row) - len(goals):]
    for index, premise in enumerate(above):
        inner = holds + [(level,) + tuple(new)] if new and index == len(goals) - 1 else holds
        yield from plain_faults(library, inner, goals[index], premise, path + (index,))
    if new and not does_fit(plain_counts(above[-1], level + 1).get(level, (0, 0, 0)), new[0]):
        yield path, "use"


def plain_fault(library, claim, derivation):
    """The first fault of a derivation, or None."""
    for fault in plain_faults(library, list(claim[0]), claim[1], derivation):
        return fault
    used = plain_counts(derivation, 0)
    for name, kind, sentence in claim[0]:
        if not does_fit(used.get(name, (0, 0, 0)), kind):
            return (), "use"
    return None


def is_settled(row, level=0):
    """Point 57: whether no exchange exists; a row that brings a hold is used by the row on top of it."""
    name = row[0]
    above = [item for item in row[1:] if isinstance(item, tuple) and item and item[0] in ROWS]
    if name in ("pick", "pay", "open"):
        top = above[-1]
        refers = top[0] in ("pick", "pay", "open") and top[1] == level
        if top[0] != "own" and not refers:
            return False
    levels = [level] * len(above)
    if name in ("take", "pick", "pay", "open"):
        levels[-1] = level + 1
    return all([is_settled(premise, inner) for premise, inner in zip(above, levels)])


def is_used(row, ref):
    """Whether a reference occurs in a derivation; references to levels mean the same everywhere in it."""
    if row[0] in ("own", "pick", "pay", "open") and row[1] == ref:
        return True
    return any([is_used(item, ref) for item in row[1:] if isinstance(item, tuple) and item and item[0] in ROWS])


def plain_step(library, row, m, way):
    """Point 39 for a row at level m: the name of the step and what it makes of the row, or None."""
    if row[0] == "cite" and way == "unfold" and row[1] in library.entry_names():
        return "unfold", moved(library.entry(row[1])[1], 0, m, {})
    if row[0] != "cut":
        return None
    _, kind, S, D, B = row
    D1, D2 = moved(D, m, m + 1, {}), moved(D, m, m + 2, {})

    def swap(T):
        return moved(T, m + 2, m + 2, {m: m + 1, m + 1: m})

    def sink_body(T):
        return moved(T, m + 2, m + 1, {m + 1: m})

    def sink(P):
        return moved(P, m + 1, m, {})

    def K(X, level):
        return "once" if kind == "once" else plain_counts(X, level)[m][1:]

    if way == "left":
        if D[0] == "own":
            return "rename", moved(B, m + 1, m, {m: D[1]})
        if kind == "once" and D[0] in ("pick", "pay", "open"):
            return "pass left", D[:-1] + (("cut", "once", S, D[-1], moved(B, m + 1, m + 2, {m: m + 1})),)
    if way != "right":
        return None
    if kind != "once" and not is_used(B, m):
        return "drop", sink(B)
    if B == ("own", m):
        return "land", D
    R, refers = B[0], B[0] in ("pick", "pay", "open") and B[1] == m
    if is_used(B, m) and R not in ("own", "cut", "cite") and not refers:
        T = B[-1]
        if R in ("take", "pick", "open"):
            return "pass right", B[:-1] + (("cut", K(T, m + 2), S, D1, swap(T)),)
        if R == "make":
            return "pass right", B[:-1] + (("cut", K(T, m + 1), S, D, T),)
        if R == "offer":
            return "pass right", ("offer",) + tuple(
                [("cut", K(P, m + 1), S, D, P) if is_used(P, m) else sink(P) for P in B[1:]])
        P = B[3]
        paid = ("cut", K(P, m + 1), S, D, P) if is_used(P, m) else sink(P)
        return "pass right", B[:3] + (
            paid, ("cut", K(T, m + 2), S, D1, swap(T)) if is_used(T, m) else sink_body(T))
    if kind != "once" and refers:
        T, paid = B[-1], ()
        if is_used(T, m):
            T = ("cut", K(T, m + 2), S, D2, moved(T, m + 2, m + 3, {m: m + 2}))
        if R == "pay":
            paid = (B[3],)
            if is_used(B[3], m):
                paid = (("cut", K(B[3], m + 1), S, D1, moved(B[3], m + 1, m + 2, {m: m + 1})),)
        head = B[:3] if R != "open" else B[:4]
        return "peel", ("cut", "once", S, D, head + paid + (T,))
    if kind == "once" and refers:
        T = sink_body(B[-1])
        if D[0] == "take" and R == "pay":
            return "meet", ("cut", "once", S[3], ("cut", B[2], S[2], sink(B[3]), D[1]), T)
        if D[0] == "offer" and R == "pick":
            at = ["left", "right"].index(B[2]) + 1
            return "meet", ("cut", "once", S[at], D[at], T)
        if D[0] == "make" and R == "open":
            (_, w, i, A), j = D, B[3]
            X = library.meeting(w, i, j)
            if X is not None:
                X = moved(X, 0, m + 1, {"from": m})
                made, opened = library.makes_of(w)[i], library.opens_of(w)[j]
                return "meet", ("cut", "once", opened, ("cut", "once", made, A, X), T)
    return None


def plain_rank(library, sentence):
    """Point 43."""
    if sentence[0] == "word":
        if sentence[1] not in library:
            return 1
        made = [plain_rank(library, make) for make in library.makes_of(sentence[1])]
        opened = [plain_rank(library, inner) for inner in library.opens_of(sentence[1])]
        return 1 + max(made + [0]) + max(opened + [0])
    first, second = plain_rank(library, sentence[-2]), plain_rank(library, sentence[-1])
    if sentence[0] == "menu":
        return max(first, second)
    return (1 if sentence[1] == "once" else sentence[1][0]) * first + second


def taller(plays, more):
    return [(rows + more, load) for rows, load in plays]


def pairs_of(first, second):
    """The plays that are a play of the one and a play of the other."""
    return [(a + c, b + d) for a, b in first for c, d in second]


def plain_plays(library, row):
    """Points 44 and 45: the rows and the load of each play."""
    name = row[0]
    if name == "own":
        return [(1, 0)]
    if name in ("take", "make", "pick"):
        return taller(plain_plays(library, row[-1]), 1)
    if name == "offer":
        return taller(plain_plays(library, row[1]) + plain_plays(library, row[2]), 1)
    if name == "cite":
        return [(rows + 1, load + 1) for rows, load in plain_plays(library, library.entry(row[1])[1])]
    found = plain_plays(library, row[-1])
    if name == "open":
        for index in range(len(library.makes_of(row[2]))):
            meeting = library.meeting(row[2], index, row[3])
            if meeting is not None:
                found = pairs_of(plain_plays(library, meeting), found)
        return taller(found, 1)
    kind = row[2] if name == "pay" else row[1]
    inner = plain_plays(library, row[3])
    if kind != "once":
        inner = taller(inner, 1)
    for _ in range(1 if kind == "once" else kind[0]):
        found = pairs_of(inner, found)
    if name == "pay":
        return taller(found, 1)
    factor = (1 if kind == "once" else kind[0]) * plain_rank(library, row[2])
    return [(rows, load + factor * (rows - 1)) for rows, load in found]
