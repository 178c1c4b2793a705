"""Points 27 and 28: counting uses."""

import random
import unittest

from helper import random_derivation, tower
from heldproofs.counts import Count, counts
from heldproofs.moving import free_refs
from heldproofs.rowtext import parse_derivation

KINDS = ["once", (1, 0), (2, 3), (400, 100)]
TRIPLES = [(0, 0, 0), (1, 1, 0), (0, 1, 5), (2, 7, 1), (3, 3, 3)]


def numbers(derivation, level=0):
    return {ref: count.triple() for ref, count in counts(derivation, level).items()}


def boxed(triple, kind):
    return triple if kind == "once" else (0, kind[0] * triple[1], kind[1] + triple[2])


def total(triples):
    """The sum of the counts that there are, None if there is none."""
    there = [triple for triple in triples if triple is not None]
    if not there:
        return None
    return (sum([a for a, b, c in there]), sum([b for a, b, c in there]), max([c for a, b, c in there]))


def count_of(row, ref):
    """Point 28 for one reference alone: its three numbers, or None where it does not occur."""
    here = (1, 1, 0) if row[0] in ("own", "pick", "pay", "open") and row[1] == ref else None
    if row[0] == "own":
        return here
    if row[0] == "cite":
        return None
    if row[0] == "offer":
        sides = [count_of(row[1], ref), count_of(row[2], ref)]
        if sides == [None, None]:
            return None
        left, right = [side or (0, 0, 0) for side in sides]
        return (min(left[0], right[0]), max(left[1], right[1]), max(left[2], right[2]))
    if row[0] in ("pay", "cut"):
        inner = count_of(row[-2], ref)
        kind = row[2] if row[0] == "pay" else row[1]
        return total([count_of(row[-1], ref), here, None if inner is None else boxed(inner, kind)])
    return total([count_of(row[-1], ref), here])


class CountTest(unittest.TestCase):
    def test_attributes(self):
        count = Count(1, 2, 3)
        self.assertEqual((count.least, count.most, count.days), (1, 2, 3))
        self.assertEqual(vars(count), {"least": 1, "most": 2, "days": 3})
        self.assertEqual(count.triple(), (1, 2, 3))
        self.assertIs(type(count.triple()), tuple)

    def test_plus_and_or(self):
        for a in TRIPLES:
            for b in TRIPLES:
                first, second = Count(*a), Count(*b)
                self.assertEqual((first + second).triple(), (a[0] + b[0], a[1] + b[1], max(a[2], b[2])))
                self.assertEqual((first | second).triple(), (min(a[0], b[0]), max(a[1], b[1]), max(a[2], b[2])))
                self.assertEqual([first.triple(), second.triple()], [a, b])

    def test_plus_and_or_of_one_count(self):
        count = Count(1, 2, 3)
        self.assertEqual((count + count).triple(), (2, 4, 3))
        self.assertEqual((count | count).triple(), (1, 2, 3))
        for made in [count + count, count | count, count.boxed("once"), count.boxed((1, 0))]:
            self.assertIsInstance(made, Count)
            made.most = 99
            self.assertEqual(count.triple(), (1, 2, 3))

    def test_boxed(self):
        for triple in TRIPLES:
            count = Count(*triple)
            for kind in KINDS:
                self.assertEqual(count.boxed(kind).triple(), boxed(triple, kind))
                self.assertEqual(count.triple(), triple)
        self.assertEqual(Count(1, 1, 0).boxed((5, 2)).triple(), (0, 5, 2))
        self.assertEqual(Count(2, 3, 4).boxed((1, 0)).triple(), (0, 3, 4))

    def test_fits_once(self):
        for least, most, fits in [(1, 1, True), (0, 1, False), (1, 2, False), (0, 0, False), (2, 2, False),
                                  (0, 2, False)]:
            for days in (0, 1, 100):
                self.assertIs(Count(least, most, days).fits("once"), fits)

    def test_fits_stock(self):
        for least in (0, 1, 3):
            for most, days, fits in [(3, 2, True), (4, 2, False), (3, 3, False), (2, 2, True), (3, 1, True),
                                     (2, 3, False), (4, 1, False), (4, 3, False), (0, 0, True)]:
                self.assertIs(Count(least, most, days).fits((3, 2)), fits)
        self.assertIs(Count(1, 1, 0).fits((1, 0)), True)
        self.assertIs(Count(1, 1, 1).fits((1, 0)), False)
        self.assertIs(Count(1, 2, 0).fits((1, 0)), False)

    def test_the_operators_stand_in_the_class(self):
        for method in ["__init__", "__add__", "__or__", "boxed", "fits", "triple"]:
            self.assertIn(method, vars(Count))


class CountsTest(unittest.TestCase):
    def check(self, text, expected, level=0):
        self.assertEqual(numbers(parse_derivation(text), level), expected, text)

    def test_own_and_cite(self):
        self.check("own x", {"x": (1, 1, 0)})
        self.check("own #0", {0: (1, 1, 0)}, 1)
        self.check("own #0", {0: (1, 1, 0)}, 7)
        self.check("own #0", {})
        self.check("own #3", {}, 3)
        self.check("cite e", {})
        self.check("cite e", {}, 4)

    def test_make_and_take(self):
        self.check("make w 0 own x", {"x": (1, 1, 0)})
        self.check("make w 0 own #1", {1: (1, 1, 0)}, 2)
        self.check("make w 0 own #2", {}, 2)
        self.check("take own #0", {})
        self.check("take own x", {"x": (1, 1, 0)})
        self.check("take own #2", {}, 2)
        self.check("take own #1", {1: (1, 1, 0)}, 2)
        self.check("take take own #1", {})

    def test_offer(self):
        self.check("offer own x own x", {"x": (1, 1, 0)})
        self.check("offer own x own y", {"x": (0, 1, 0), "y": (0, 1, 0)})
        self.check("offer own x pick x left pick x right own #1", {"x": (1, 2, 0)})
        self.check("offer pay f [2/3] own x own #0 own x", {"f": (0, 1, 0), "x": (0, 2, 3)})
        self.check("offer own x pay f [2/3] own x own #0", {"f": (0, 1, 0), "x": (0, 2, 3)})
        self.check("offer own x cite e", {"x": (0, 1, 0)})
        self.check("offer own #0 own #1", {0: (0, 1, 0)}, 1)

    def test_pick_and_open(self):
        for row in ["pick {} left", "open {} w 0"]:
            self.check(row.format("x") + " own #0", {"x": (1, 1, 0)})
            self.check(row.format("x") + " own x", {"x": (2, 2, 0)})
            self.check(row.format("x") + " own y", {"x": (1, 1, 0), "y": (1, 1, 0)})
            self.check(row.format("#1") + " own #2", {1: (1, 1, 0)}, 2)
            self.check(row.format("#1") + " own #1", {1: (2, 2, 0)}, 2)
            self.check(row.format("#2") + " own #2", {}, 2)
            self.check(row.format("x") + " offer own x own y", {"x": (1, 2, 0), "y": (0, 1, 0)})

    def test_pay(self):
        self.check("pay f once own s own #0", {"f": (1, 1, 0), "s": (1, 1, 0)})
        self.check("pay f once own s own s", {"f": (1, 1, 0), "s": (2, 2, 0)})
        self.check("pay f [3/2] own s own #0", {"f": (1, 1, 0), "s": (0, 3, 2)})
        self.check("pay f [3/2] own s own s", {"f": (1, 1, 0), "s": (1, 4, 2)})
        self.check("pay f [3/2] own f own f", {"f": (2, 5, 2)})
        self.check("pay #0 [3/2] own #0 own #1", {0: (1, 4, 2)}, 1)
        # The new hold is not there in paid: its level is nothing there.
        self.check("pay f once own #0 own #0", {"f": (1, 1, 0)})

    def test_cut(self):
        self.check("cut once (a) own s own #0", {"s": (1, 1, 0)})
        self.check("cut once (a) own s own s", {"s": (2, 2, 0)})
        self.check("cut [3/2] (a) own s own #0", {"s": (0, 3, 2)})
        self.check("cut [3/2] (a) own s own t", {"s": (0, 3, 2), "t": (1, 1, 0)})
        self.check("cut [3/2] (a) own #0 own #0", {0: (1, 4, 2)}, 1)
        self.check("cut [3/2] (a) own #1 own #1", {}, 1)

    def test_boxes_in_boxes(self):
        self.check("pay f [2/1] pay g [3/4] own s own #0 own #0", {"f": (1, 1, 0), "g": (0, 2, 1), "s": (0, 6, 5)})
        self.check("cut [2/1] (a) pay g once own s own #0 own #0", {"g": (0, 2, 1), "s": (0, 2, 1)})
        self.check("pay f once cut [3/4] (a) own s own #0 own #0", {"f": (1, 1, 0), "s": (0, 3, 4)})
        self.check("pay f [2/1] offer own s pick s left own s own #0", {"f": (1, 1, 0), "s": (0, 4, 1)})
        self.check("pay f [2/5] own s pay g [3/4] own s own #1", {"f": (1, 1, 0), "g": (1, 1, 0), "s": (0, 5, 5)})

    def test_level_left_out_is_zero(self):
        derivation = parse_derivation("pick #0 left own #1")
        self.assertEqual(numbers(derivation), {})
        self.assertEqual({ref: count.triple() for ref, count in counts(derivation).items()}, {})
        self.assertEqual(numbers(derivation, 1), {0: (1, 1, 0)})
        self.assertEqual(numbers(derivation, 2), {0: (1, 1, 0), 1: (1, 1, 0)})
        self.assertEqual({ref: count.triple() for ref, count in counts(derivation, level=1).items()}, {0: (1, 1, 0)})

    def test_the_dictionary_is_new(self):
        for text in ["own x", "cite e", "offer own x own x", "take own x", "pay f [2/1] own x own x"]:
            derivation = parse_derivation(text)
            first, second = counts(derivation), counts(derivation)
            kept = {ref: count.triple() for ref, count in second.items()}
            self.assertIsNot(first, second)
            for count in first.values():
                count.least = count.most = count.days = 77
            first.clear()
            first["new"] = None
            self.assertEqual({ref: count.triple() for ref, count in second.items()}, kept)
            self.assertEqual(numbers(derivation), kept)

    def test_values_are_counts(self):
        for count in counts(parse_derivation("pay f [2/1] own x offer own y own #0")).values():
            self.assertIs(type(count), Count)

    def test_against_the_definition(self):
        source = random.Random(28)
        for _ in range(300):
            level = source.randrange(3)
            derivation = random_derivation(source, 6, level)
            refs = free_refs(derivation, level)
            self.assertEqual(numbers(derivation, level), {ref: count_of(derivation, ref) for ref in refs})

    def test_nested_deep(self):
        for depth in (60, 150, 200):
            take, pay, source, make, offer = tower(depth)
            self.assertEqual(numbers(take), {"x": (1, 1, 0)})
            self.assertEqual(numbers(pay), {"f": (depth - 1,) * 2 + (0,), "s": (0, 2 * depth - 2, 1), "x": (1, 1, 0)})
            self.assertEqual(numbers(source), {"x": (0, 1, 0), "z": (1, depth - 1, 0)})
            self.assertEqual(numbers(make), {"x": (1, 1, 0)})
            self.assertEqual(numbers(offer), {"x": (0, 1, 0), "y": (0, 1, 0)})

    def test_numbers_beyond_the_limits(self):
        made = ("own", "s")
        for _ in range(60):
            made = ("pay", "f", (400, 100), made, ("own", "t"))
        self.assertEqual(numbers(made)["s"], (0, 400 ** 60, 6000))


if __name__ == "__main__":
    unittest.main()
