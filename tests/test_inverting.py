"""Points 37 and 38: taking the goal of a derivation apart, and expanding own rows."""

import random
import unittest

from drawing import draw_derivation, draw_full_library
from helper import error_of, holds_no_list
from heldproofs.checking import accepts, claim_at
from heldproofs.claims import with_hold
from heldproofs.claimtext import parse_claim
from heldproofs.inverting import expanded, invert_offer, invert_take
from heldproofs.library import Library
from heldproofs.rows import level_at, part, row_count, walk
from heldproofs.rowtext import parse_derivation
from heldproofs.sentencetext import parse_sentence

TRADE, MENU = parse_sentence("a [2/1] > b"), parse_sentence("a & b")


def library_of_words():
    """The word w opens into a trade and a menu; the entries e and g show a trade and a menu."""
    library = Library()
    library.define("w", opens=[TRADE, MENU])
    library.keep("e", parse_sentence("a > a"), parse_derivation("take own #0"))
    library.keep("g", parse_sentence("(a > a) & (b > b)"), parse_derivation("offer take own #0 take own #0"))
    return library


class InvertTest(unittest.TestCase):
    def setUp(self):
        self.library = library_of_words()

    def check(self, call, told, claim, before, expected_claim, after):
        claim, before = parse_claim(claim), parse_derivation(before)
        self.assertTrue(accepts(self.library, claim, before), before)
        found = call(claim, before, told)
        self.assertEqual(found, (parse_claim(expected_claim), parse_derivation(after)))
        self.assertTrue(holds_no_list(found))
        self.assertTrue(accepts(self.library, *found))


class InvertTakeTest(InvertTest):
    def taken(self, claim, before, holds, after, goal="b", kind="[2/1]"):
        before_claim = f"{claim} |- a {kind} > {goal}" if kind else f"{claim} |- a > {goal}"
        new = f"new {kind}: a" if kind else "new: a"
        expected = f"{holds}, {new} |- {goal}" if holds else f"{new} |- {goal}"
        self.check(invert_take, "new", before_claim, before, expected, after)

    def test_take(self):
        self.taken("x: b", "take own x", "x: b", "own x")
        self.taken("", "take own #0", "", "own new", goal="a")
        self.taken("f: a [2/1] > b", "take pay f [2/1] own #0 own #1", "f: a [2/1] > b",
                   "pay f [2/1] own new own #0")
        self.taken("f: a > b > c", "take pay f once own #0 take pay #1 once own #2 own #3", "f: a > b > c",
                   "pay f once own new take pay #0 once own #1 own #2", goal="b > c", kind="")

    def test_own(self):
        self.taken("x: a [2/1] > b", "own x", "x: a [2/1] > b", "pay x [2/1] own new own #0")
        self.taken("x: a > b", "own x", "x: a > b", "pay x once own new own #0", kind="")

    def test_rows_on_the_way(self):
        self.taken("x: b & c", "pick x left take own #0", "x: b & c", "pick x left own #0")
        self.taken("x: (a [2/1] > b) & c", "pick x left own #0", "x: (a [2/1] > b) & c",
                   "pick x left pay #0 [2/1] own new own #1")
        self.taken("f: c > b, x: c", "pay f once own x take own #0", "f: c > b, x: c", "pay f once own x own #0")
        self.taken("f: c > a [2/1] > b, x: c", "pay f once own x own #0", "f: c > a [2/1] > b, x: c",
                   "pay f once own x pay #0 [2/1] own new own #1")
        self.taken("x: w", "open x w 0 own #0", "x: w", "open x w 0 pay #0 [2/1] own new own #1")
        self.taken("x: b", "cut once (b) own x take own #0", "x: b", "cut once (b) own x own #0")
        self.taken("x: a [2/1] > b", "cut once (a [2/1] > b) own x own #0", "x: a [2/1] > b",
                   "cut once (a [2/1] > b) own x pay #0 [2/1] own new own #1")
        self.taken("x: b & c", "pick x left cut once (b) own #0 take own #1", "x: b & c",
                   "pick x left cut once (b) own #0 own #1")

    def test_levels_above_the_taken_hold(self):
        self.taken("x: b & c, f: a > b > d", "pick x left take pay f once own #1 pay #2 once own #0 own #3",
                   "x: b & c, f: a > b > d", "pick x left pay f once own new pay #1 once own #0 own #2",
                   goal="d", kind="")
        # The take rows in paid and in source are not on the way to the goal.
        self.taken("f: (a > a) > b", "pay f once take own #0 take own #0", "f: (a > a) > b",
                   "pay f once take own #0 own #0")
        self.taken("f: b > c, x: b", "cut once (b > c) own f take pay #0 once own x own #2", "f: b > c, x: b",
                   "cut once (b > c) own f pay #0 once own x own #1", goal="c")

    def test_cite(self):
        self.check(invert_take, "new", "|- a > a", "cite e", "new: a |- a",
                   "cut once (a > a) cite e pay #0 once own new own #1")
        self.check(invert_take, "new", "s [1/0]: b |- a > a", "cut [1/0] (b) own s cite e",
                   "s [1/0]: b, new: a |- a",
                   "cut [1/0] (b) own s cut once (a > a) cite e pay #1 once own new own #2")

    def test_errors_in_their_order(self):
        for goal in ["a", "a & b", "(a > b) & (a > b)"]:
            for name in ["", "x", "new"]:
                claim = parse_claim("x: a |- " + goal)
                self.assertEqual(error_of(invert_take, claim, ("own", "x"), name), ("WrongGoal", {}))
        claim = parse_claim("x: a > b |- a > b")
        for name in ["", "X", "a b"]:
            self.assertEqual(error_of(invert_take, claim, ("own", "x"), name), ("BadName", {"name": name}))
        self.assertEqual(error_of(invert_take, claim, ("own", "x"), "x"), ("NameTaken", {"name": "x"}))

    def test_drawn(self):
        source = random.Random(37)
        seen = set()
        for _ in range(400):
            library = draw_full_library(source)
            claim, derivation = draw_derivation(source, library, source.choice([1, 2, 3, 4]), (
                "trade", source.choice(["once", (2, 1)]), ("word", "a"), ("word", "b")))
            found = invert_take(claim, derivation, "new")
            kind, price, goods = claim[1][1:]
            self.assertEqual(found[0], with_hold((claim[0], goods), "new", kind, price))
            self.assertTrue(accepts(library, *found))
            seen |= {name for path, name in walk(derivation) if set(path) <= {0, 1}}
        self.assertLessEqual({"take", "own", "pick", "pay", "open", "cut", "cite"}, seen)


class InvertOfferTest(InvertTest):
    def offered(self, claim, before, left, right):
        for side, goal, after in [("left", "a", left), ("right", "b", right)]:
            expected = f"{claim} |- {goal}"
            self.check(invert_offer, side, f"{claim} |- a & b", before, expected, after)

    def test_offer(self):
        self.offered("x [1/0]: a, y [1/0]: b", "offer own x own y", "own x", "own y")

    def test_own(self):
        self.offered("x: a & b", "own x", "pick x left own #0", "pick x right own #0")

    def test_rows_on_the_way(self):
        self.offered("x: a & b & c", "pick x left own #0", "pick x left pick #0 left own #1",
                     "pick x left pick #0 right own #1")
        self.offered("x: c > a & b, y: c", "pay x once own y own #0", "pay x once own y pick #0 left own #1",
                     "pay x once own y pick #0 right own #1")
        self.offered("x: w", "open x w 1 own #0", "open x w 1 pick #0 left own #1", "open x w 1 pick #0 right own #1")
        self.offered("x: a & b", "cut once (a & b) own x offer pick #0 left own #1 pick #0 right own #1",
                     "cut once (a & b) own x pick #0 left own #1", "cut once (a & b) own x pick #0 right own #1")
        self.offered("x: a & b", "cut once (a & b) offer pick x left own #0 pick x right own #0 own #0",
                     "cut once (a & b) offer pick x left own #0 pick x right own #0 pick #0 left own #1",
                     "cut once (a & b) offer pick x left own #0 pick x right own #0 pick #0 right own #1")

    def test_cite(self):
        claim = "s [1/0]: b |- (a > a) & (b > b)"
        for side, goal in [("left", "a > a"), ("right", "b > b")]:
            self.check(invert_offer, side, claim, "cite g", "s [1/0]: b |- " + goal,
                       f"cut once ((a > a) & (b > b)) cite g pick #0 {side} own #1")
            self.check(invert_offer, side, claim, "cut [1/0] (b) own s cite g", "s [1/0]: b |- " + goal,
                       f"cut [1/0] (b) own s cut once ((a > a) & (b > b)) cite g pick #1 {side} own #2")

    def test_errors(self):
        for goal in ["a", "a > b", "a > b & b"]:
            for side in ["left", "right"]:
                self.assertEqual(error_of(invert_offer, parse_claim("x: a |- " + goal), ("own", "x"), side),
                                 ("WrongGoal", {}))

    def test_drawn(self):
        source = random.Random(370)
        for _ in range(200):
            library = draw_full_library(source)
            claim, derivation = draw_derivation(source, library, source.choice([1, 2, 3, 4]), MENU)
            for side, goal in [("left", ("word", "a")), ("right", ("word", "b"))]:
                found = invert_offer(claim, derivation, side)
                self.assertEqual(found[0], (claim[0], goal))
                self.assertTrue(accepts(library, *found))


class ExpandedTest(unittest.TestCase):
    def check(self, claim, before, after):
        claim, before = parse_claim(claim), parse_derivation(before)
        library = library_of_words()
        found = expanded(library, claim, before)
        self.assertEqual(found, parse_derivation(after))
        self.assertTrue(accepts(library, claim, found))

    def test_words(self):
        self.check("x: a |- a", "own x", "own x")
        self.check("x: w |- w", "own x", "own x")

    def test_menus_and_trades(self):
        self.check("x: a & b |- a & b", "own x", "offer pick x left own #0 pick x right own #0")
        self.check("x: a > b |- a > b", "own x", "take pay x once own #0 own #1")
        self.check("x: a [2/1] > b |- a [2/1] > b", "own x", "take pay x [2/1] own #0 own #1")

    def test_nested(self):
        self.check("x: a & (b & c) |- a & (b & c)", "own x",
                   "offer pick x left own #0 pick x right offer pick #0 left own #1 pick #0 right own #1")
        self.check("x: a > b > c |- a > b > c", "own x",
                   "take pay x once own #0 take pay #1 once own #2 own #3")
        self.check("x: (a [2/1] > b) > c |- (a [2/1] > b) > c", "own x",
                   "take pay x once take pay #0 [2/1] own #1 own #2 own #1")
        self.check("x: a & b > c & d |- a & b > c & d", "own x",
                   "take pay x once offer pick #0 left own #1 pick #0 right own #1 "
                   "offer pick #1 left own #2 pick #1 right own #2")
        self.check("x: (a > b) & c |- (a > b) & c", "own x",
                   "offer pick x left take pay #0 once own #1 own #2 pick x right own #0")

    def test_at_levels_above_0(self):
        self.check("x: c > a & b |- c > a & b", "take pay x once own #0 own #1",
                   "take pay x once own #0 offer pick #1 left own #2 pick #1 right own #2")
        self.check("|- (a > b) > a > b", "take own #0", "take take pay #0 once own #1 own #2")
        self.check("x: w |- a & b", "open x w 1 own #0", "open x w 1 offer pick #0 left own #1 pick #0 right own #1")
        self.check("x: a & b |- a & b", "cut once (a & b) own x own #0",
                   "cut once (a & b) offer pick x left own #0 pick x right own #0 "
                   "offer pick #0 left own #1 pick #0 right own #1")
        self.check("|- a > a", "cite e", "cite e")

    def test_drawn(self):
        source = random.Random(38)
        for _ in range(150):
            library = draw_full_library(source)
            claim, derivation = draw_derivation(source, library, source.choice([1, 2, 3, 4]))
            found = expanded(library, claim, derivation)
            self.assertTrue(accepts(library, claim, found))
            self.assertEqual(expanded(library, claim, found), found)
            for path, name in walk(found):
                if name == "own":
                    self.assertEqual(claim_at(library, claim, found, path)[1][0], "word")
            others = [name for path, name in walk(derivation) if name in ("cut", "cite", "make", "open")]
            self.assertEqual([name for path, name in walk(found) if name in ("cut", "cite", "make", "open")], others)
            if not [path for path, name in walk(derivation) if name == "own" and claim_at(
                    library, claim, derivation, path)[1][0] != "word"]:
                self.assertEqual(found, derivation)

    def test_deep(self):
        sentence = ("word", "a")
        for _ in range(60):
            sentence = ("trade", "once", sentence, ("word", "b"))
        claim = ((("x", "once", sentence),), sentence)
        found = expanded(Library(), claim, ("own", "x"))
        self.assertTrue(accepts(Library(), claim, found))
        self.assertEqual(row_count(found), 60 * 3 + 1)
        self.assertEqual(part(found, (0, 1)), ("own", 1))
        self.assertEqual(level_at(found, (0, 1)), 2)


if __name__ == "__main__":
    unittest.main()
