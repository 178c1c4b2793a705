"""Points 29 to 32: the checker."""

import random
import unittest

from drawing import draw_derivation, draw_full_library, spoilt
from helper import check_new, error_of, tower
from plain import plain_fault
from heldproofs.checking import accepts, check, claim_at
from heldproofs.claims import hold_of, with_hold
from heldproofs.claimtext import parse_claim
from heldproofs.counts import counts
from heldproofs.library import Library
from heldproofs.rows import part, walk
from heldproofs.rowtext import parse_derivation
from heldproofs.sentencetext import parse_sentence


def library_of_words():
    """The word w with two makes and an open, the word v with an open alone, and the entry e."""
    library = Library()
    library.define("w", makes=[parse_sentence("a & b"), parse_sentence("c")], opens=[parse_sentence("a")])
    library.define("v", opens=[parse_sentence("c")])
    library.keep("e", parse_sentence("a > a"), parse_derivation("take own #0"))
    return library


class CheckTest(unittest.TestCase):
    def setUp(self):
        self.library = library_of_words()

    def shows(self, claim, derivation):
        claim, derivation = parse_claim(claim), parse_derivation(derivation)
        self.assertIsNone(check(self.library, claim, derivation))
        self.assertIs(accepts(self.library, claim, derivation), True)

    def fails(self, claim, derivation, path, reason):
        told = (self.library, parse_claim(claim), parse_derivation(derivation))
        self.assertEqual(error_of(check, *told), ("DerivationError", {"path": path, "reason": reason}), derivation)
        self.assertIs(accepts(*told), False)


class RowsTest(CheckTest):
    def test_examples_of_the_interface(self):
        self.shows("f: a [2/0] > b, s [2/0]: a |- b", "pay f [2/0] own s own #0")
        self.fails("f: a [2/1] > b, s [2/0]: a |- b", "cut once (c) pick s left own #0 own f", (0,), "sentence")

    def test_own(self):
        self.shows("x: a |- a", "own x")
        self.shows("x [2/0]: a, y [1/0]: b |- a", "own x")
        self.fails("x: a |- a", "own y", (), "hold")
        self.fails("x: a |- a", "own #0", (), "hold")
        self.fails("x: a |- b", "own x", (), "goal")
        self.fails("x: a & b |- a", "own x", (), "goal")
        self.fails("x: a [1/0] > b |- a > b", "own x", (), "goal")
        self.fails("|- a > a", "take own #1", (0,), "hold")
        library, claim = self.library, parse_claim("|- a > a")
        self.assertEqual(error_of(check, library, claim, ("take", ("own", -1))),
                         ("DerivationError", {"path": (0,), "reason": "hold"}))

    def test_take(self):
        self.shows("|- a > a", "take own #0")
        self.shows("|- a [2/1] > a", "take own #0")
        self.shows("x: b |- a [2/1] > b", "take own x")
        self.fails("x: a |- a", "take own x", (), "goal")
        self.fails("x: a & b |- a & b", "take own x", (), "goal")
        self.fails("|- a > b", "take own #0", (0,), "goal")

    def test_offer(self):
        self.shows("x: a |- a & a", "offer own x own x")
        self.shows("x: a & b |- b & a", "offer pick x right own #0 pick x left own #0")
        self.fails("x: a |- a", "offer own x own x", (), "goal")
        self.fails("x: a |- b & a", "offer own x own x", (0,), "goal")
        self.fails("x: a |- a & b", "offer own x own x", (1,), "goal")

    def test_pick(self):
        self.shows("x: a & b |- a", "pick x left own #0")
        self.shows("x: a & b |- b", "pick x right own #0")
        self.shows("x [2/0]: a & b |- b", "pick x right own #0")
        self.fails("x: a & b |- a", "pick y left own #0", (), "hold")
        self.fails("x: a & b |- a", "pick #0 left own #0", (), "hold")
        self.fails("x: a |- a", "pick x left own #0", (), "sentence")
        self.fails("x: a > b |- a", "pick x left own #0", (), "sentence")
        self.fails("x: a & b |- a", "pick x right own #0", (0,), "goal")
        self.fails("x: a & b |- a", "pick x left own #1", (0,), "hold")

    def test_pay(self):
        self.shows("f: a > b, s: a |- b", "pay f once own s own #0")
        self.shows("f: a [2/1] > b, s [2/1]: a |- b", "pay f [2/1] own s own #0")
        self.fails("f: a > b, s: a |- b", "pay g once own s own #0", (), "hold")
        self.fails("f: a & b, s: a |- b", "pay f once own s own #0", (), "sentence")
        self.fails("f: a > b, s: a |- b", "pay f [1/0] own s own #0", (), "kind")
        self.fails("f: a [1/0] > b, s: a |- b", "pay f once own s own #0", (), "kind")
        self.fails("f: a [1/0] > b, s: a |- b", "pay f [1/1] own s own #0", (), "kind")
        self.fails("f: a > b, s: b |- b", "pay f once own s own #0", (0,), "goal")
        self.fails("f: a > b, s: a |- c", "pay f once own s own #0", (1,), "goal")
        # The new hold is in scope in the body alone.
        self.fails("f: a > a, s: a |- a", "pay f once own #0 own s", (0,), "hold")

    def test_make(self):
        self.shows("x: a & b |- w", "make w 0 own x")
        self.shows("x: c |- w", "make w 1 own x")
        self.fails("x: c |- c", "make w 1 own x", (), "goal")
        self.fails("x: c |- v", "make w 1 own x", (), "goal")
        self.fails("x: c |- w & w", "make w 1 own x", (), "goal")
        self.fails("x: c |- w", "make w 2 own x", (), "word")
        self.fails("x: c |- v", "make v 0 own x", (), "word")
        self.fails("x: c |- a", "make a 0 own x", (), "word")
        self.fails("x: c |- w", "make w 0 own x", (0,), "goal")
        self.assertEqual(error_of(check, self.library, parse_claim("x: c |- w"), ("make", "w", -1, ("own", "x"))),
                         ("DerivationError", {"path": (), "reason": "word"}))

    def test_open(self):
        self.shows("x: w |- a", "open x w 0 own #0")
        self.shows("x: v |- c", "open x v 0 own #0")
        self.fails("x: w |- a", "open y w 0 own #0", (), "hold")
        self.fails("x: w |- a", "open x v 0 own #0", (), "sentence")
        self.fails("x: w & w |- a", "open x w 0 own #0", (), "sentence")
        self.fails("x: w |- a", "open x w 1 own #0", (), "word")
        self.fails("x: a |- a", "open x a 0 own #0", (), "word")
        self.fails("x: w |- c", "open x w 0 own #0", (0,), "goal")
        self.assertEqual(error_of(check, self.library, parse_claim("x: w |- a"), ("open", "x", "w", -1, ("own", 0))),
                         ("DerivationError", {"path": (), "reason": "word"}))

    def test_cut(self):
        self.shows("x: a |- a", "cut once (a) own x own #0")
        self.shows("x [2/1]: a |- a", "cut [2/1] (a) own x own #0")
        self.fails("x: a, y: b |- b", "cut once (b) own x own y", (0,), "goal")
        self.fails("x: a |- b", "cut once (a) own x own #0", (1,), "goal")
        self.fails("x: a |- a", "cut once (a) own #0 own x", (0,), "hold")

    def test_cite(self):
        self.shows("|- a > a", "cite e")
        self.shows("s [2/2]: b |- a > a", "cite e")
        self.fails("|- a > a", "cite f", (), "entry")
        self.fails("|- a > b", "cite f", (), "entry")
        self.fails("|- a > b", "cite e", (), "goal")
        self.fails("|- a > a", "cite w", (), "entry")

    def test_scope_of_holds_brought_below(self):
        self.shows("|- a [1/0] > b [1/0] > a", "take take own #0")
        self.shows("|- a [1/0] > b [1/0] > b", "take take own #1")
        self.fails("|- a [1/0] > b [1/0] > a", "take take own #2", (0, 0), "hold")
        # Two premises of one row bring their own holds at the same level.
        self.shows("x: a |- (b [1/0] > a) & (c [1/0] > a)", "offer take own x take own x")
        self.fails("x: a |- (b [1/0] > b) & (c [1/0] > b)", "offer take own #0 take own #0", (1, 0), "goal")


class UseTest(CheckTest):
    def test_once_in_a_claim(self):
        self.fails("x: a, y: b |- a", "own x", (), "use")
        self.fails("x: a |- a & a", "offer own x cut [1/0] (a) own x own #0", (), "use")
        self.fails("x: a, y [1/0]: a |- a & a", "offer own x own y", (), "use")
        self.fails("x: a, y [1/0]: a |- a & a", "offer own y own x", (), "use")
        self.fails("f: a > a > a, x: a |- a", "pay f once own x pay #0 once own x own #1", (), "use")
        self.fails("x: a, f: a [1/0] > b |- b", "pay f [1/0] own x own #0", (), "use")
        self.fails("x: a |- a", "cut [1/0] (a) own x own #0", (), "use")
        self.fails("x: a > a |- a > a", "cite e", (), "use")

    def test_stock_in_a_claim(self):
        for uses, reason in [(1, "use"), (2, None), (3, None)]:
            claim = parse_claim("f: a > a > a, x [1/0]: a |- a")
            claim = (claim[0][:1] + (("x", (uses, 0), ("word", "a")),), claim[1])
            told = (self.library, claim, parse_derivation("pay f once own x pay #0 once own x own #1"))
            expected = reason and ("DerivationError", {"path": (), "reason": reason})
            self.assertEqual(error_of(check, *told), expected)
        self.shows("x [1/0]: a |- a & a", "offer own x own x")
        self.fails("f: a [2/3] > b, x [1/3]: a |- b", "pay f [2/3] own x own #0", (), "use")
        self.fails("f: a [2/3] > b, x [2/2]: a |- b", "pay f [2/3] own x own #0", (), "use")
        self.shows("f: a [2/3] > b, x [2/3]: a |- b", "pay f [2/3] own x own #0")
        self.fails("f: a > b, x [2/3]: a, y [5/5]: a, z: c |- b", "pay f once own x own #0", (), "use")

    def test_new_holds(self):
        self.fails("x [1/0]: b |- a > b", "take own x", (), "use")
        self.fails("|- a > a & a", "take offer own #0 cut [1/0] (a) own #0 own #1", (), "use")
        self.fails("f [9/9]: a > a > a |- a > a", "take pay f once own #0 pay #1 once own #0 own #2", (), "use")
        self.fails("f [9/9]: a > a > a |- a [1/0] > a", "take pay f once own #0 pay #1 once own #0 own #2", (), "use")
        self.shows("f [9/9]: a > a > a |- a [2/0] > a", "take pay f once own #0 pay #1 once own #0 own #2")
        self.fails("f: a [2/1] > b |- a [2/0] > b", "take pay f [2/1] own #0 own #1", (), "use")
        self.fails("f: a [2/1] > b |- a [1/1] > b", "take pay f [2/1] own #0 own #1", (), "use")
        self.fails("f: a [2/1] > b |- a > b", "take pay f [2/1] own #0 own #1", (), "use")
        self.shows("f: a [2/1] > b |- a [2/1] > b", "take pay f [2/1] own #0 own #1")
        self.fails("x: a & b, y: c |- c", "pick x left own y", (), "use")
        self.fails("f: a > b, s: a, y: c |- c", "pay f once own s own y", (), "use")
        self.fails("x: w, y: c |- c", "open x w 0 own y", (), "use")
        self.fails("x: a, y: c |- c", "cut once (a) own x own y", (), "use")
        self.shows("x [1/0]: a, y: c |- c", "cut [1/0] (a) own x own y")
        self.fails("x [9/9]: a, f: a > a > a |- a",
                   "cut [1/0] (a) own x pay f once own #0 pay #1 once own #0 own #2", (), "use")

    def test_used_in_one_side_of_an_offer(self):
        self.fails("x: a |- a > a & a", "take offer own #0 own x", (), "use")
        self.fails("x: a |- a > a & a", "take offer own x own #0", (), "use")
        self.shows("x [1/0]: a |- a [1/0] > a & a", "take offer own x own #0")

    def test_the_path_is_that_of_the_row_that_brings(self):
        self.fails("x: c |- c & (a > c)", "offer own x take own x", (1,), "use")
        self.fails("x: a & b, y: c |- c & c", "offer pick x left own y pick x left own y", (0,), "use")
        self.fails("x: a, f: (b > a) > c |- c", "pay f once take own x own #0", (0,), "use")
        self.fails("x: c |- a [1/0] > b > c", "take take own x", (0,), "use")


class OrderTest(CheckTest):
    """Point 31: of two faults the first one is told."""

    def test_conditions_of_a_row_in_their_order(self):
        self.fails("x: a |- b", "own y", (), "hold")
        self.fails("f: a |- b", "pay g [2/0] own x own y", (), "hold")
        self.fails("f: a |- b", "pay f [2/0] own x own y", (), "sentence")
        self.fails("f: a > b |- b", "pay f [2/0] own x own y", (), "kind")
        self.fails("f: a > b |- b", "pay f once own x own y", (0,), "hold")
        self.fails("|- a", "make w 7 own x", (), "goal")
        self.fails("|- w", "make w 7 own x", (), "word")
        self.fails("|- w", "make w 0 own x", (0,), "hold")
        self.fails("x: a |- a", "open y w 7 own x", (), "hold")
        self.fails("x: a |- a", "open x w 7 own x", (), "sentence")
        self.fails("x: w |- a", "open x w 7 own y", (), "word")
        self.fails("x: w |- a", "open x w 0 own y", (0,), "hold")

    def test_the_row_before_its_premises_and_these_in_order(self):
        self.fails("x: a |- a", "offer own y own z", (), "goal")
        self.fails("x: a |- a & b", "offer own y own z", (0,), "hold")
        self.fails("x: a |- a & b", "offer own x own z", (1,), "hold")
        self.fails("f: a > b |- c", "pay f once own x own y", (0,), "hold")
        self.fails("f: a > b, x: a |- c", "pay f once own x own #0", (1,), "goal")
        self.fails("|- c", "cut once (a) own x own y", (0,), "hold")

    def test_all_of_the_first_premise_before_the_second(self):
        # A use in the first premise comes before a goal in the second one, and before a use in the row itself.
        self.fails("x: a, f: (b > a) > c |- c", "pay f once take own x own y", (0,), "use")
        self.fails("x: a, f: (b > a) > c, y: c |- c", "pay f once take own x own y", (0,), "use")
        self.fails("x: a |- (b > a) & b", "offer take own x own x", (0,), "use")
        self.fails("x: a |- (b > a) & (b > a)", "offer take own x take own x", (0,), "use")

    def test_the_premises_before_the_use_of_the_new_hold(self):
        self.fails("x: a & b |- c", "pick x left own x", (0,), "goal")
        self.fails("f: a > b, s: a, y: c |- c", "pay f once own s take own y", (1,), "goal")
        self.fails("x: c |- a > b > c", "take take own x", (0,), "use")
        self.fails("x: c |- a > b > d", "take take own x", (0, 0), "goal")

    def test_the_holds_of_the_claim_at_the_very_end(self):
        self.fails("x: a, z: b |- c > a", "take own x", (), "use")
        self.fails("x: a, z: b |- (c > a) & a", "offer take own x own x", (0,), "use")
        self.fails("z: b, x: a |- a & b", "offer own x own x", (1,), "goal")
        self.fails("z: b, x: a |- a & a", "offer own x take own x", (1,), "goal")
        self.fails("z: b, x: a |- a & a", "offer own x own x", (), "use")


class AcceptsTest(CheckTest):
    def test_drawn_derivations_and_their_claims_with_a_fault(self):
        source = random.Random(32)
        for _ in range(150):
            library = draw_full_library(source)
            claim, derivation = draw_derivation(source, library, source.choice([2, 3, 4]))
            self.assertIs(accepts(library, claim, derivation), True)
            self.assertIs(accepts(library, (claim[0], ("word", "none")), derivation), False)
            more = with_hold(claim, "more", "once", ("word", "a"))
            self.assertEqual(error_of(check, library, more, derivation),
                             ("DerivationError", {"path": (), "reason": "use"}))
            for name, count in counts(derivation).items():
                less = tuple([hold for hold in claim[0] if hold[0] != name])
                self.assertEqual(error_of(check, library, (less, claim[1]), derivation)[1]["reason"], "hold")
                if count.most > 1:
                    tight = [(held, (count.most - 1, 99) if held == name else kind, sentence)
                             for held, kind, sentence in claim[0]]
                    self.assertEqual(error_of(check, library, (tuple(tight), claim[1]), derivation),
                                     ("DerivationError", {"path": (), "reason": "use"}))

    def test_against_the_definition(self):
        source = random.Random(31)
        reasons = {}
        for _ in range(400):
            library = draw_full_library(source)
            claim, derivation = draw_derivation(source, library, source.choice([2, 3, 4]))
            for _ in range(5):
                fault = plain_fault(library, claim, derivation)
                expected = fault and ("DerivationError", {"path": fault[0], "reason": fault[1]})
                self.assertEqual(error_of(check, library, claim, derivation), expected)
                self.assertIs(accepts(library, claim, derivation), fault is None)
                reasons[fault and fault[1]] = reasons.get(fault and fault[1], 0) + 1
                derivation = spoilt(source, derivation)
        for reason in [None, "hold", "goal", "sentence", "kind", "word", "entry", "use"]:
            self.assertGreater(reasons[reason], 5, reason)

    def test_nested_deep(self):
        for depth in (60, 150, 200):
            take, pay, source, make, offer = tower(depth)
            goal = ("word", "a")
            holds = (("x", "once", goal),)
            for _ in range(depth - 1):
                goal = ("trade", (1, 0), ("word", "b"), goal)
            self.assertTrue(accepts(Library(), (holds, goal), take))
            trade = ("f", (depth, 0), ("trade", (2, 1), ("word", "a"), ("word", "b")))
            holds = (trade, ("s", (2 * depth, 1), ("word", "a")), ("x", "once", ("word", "c")))
            self.assertFalse(accepts(Library(), (holds, ("word", "c")), pay))
            self.assertEqual(error_of(check, Library(), (holds, ("word", "c")), pay)[1]["reason"], "use")


class ClaimAtTest(CheckTest):
    def at(self, claim, derivation, path):
        return claim_at(self.library, parse_claim(claim), parse_derivation(derivation), path)

    def test_each_path(self):
        a, b, c = ("word", "a"), ("word", "b"), ("word", "c")
        claim, derivation = "f: a [2/1] > b, s [2/1]: a & c |- b", "pay f [2/1] pick s left own #0 own #0"
        f, s = ("f", "once", ("trade", (2, 1), a, b)), ("s", (2, 1), ("menu", a, c))
        self.assertEqual(self.at(claim, derivation, ()), ([f, s], b))
        self.assertEqual(self.at(claim, derivation, (0,)), ([f, s], a))
        self.assertEqual(self.at(claim, derivation, (0, 0)), ([f, s, (0, "once", a)], a))
        self.assertEqual(self.at(claim, derivation, (1,)), ([f, s, (0, "once", b)], b))

    def test_all_rows(self):
        a, b, c, w = ("word", "a"), ("word", "b"), ("word", "c"), ("word", "w")
        for claim, derivation, path, expected in [
            ("|- a [3/1] > a", "take own #0", (0,), ([(0, (3, 1), a)], a)),
            ("x: a & b |- b & a", "offer pick x right own #0 pick x left own #0", (0,),
             ([("x", "once", ("menu", a, b))], b)),
            ("x: a & b |- b & a", "offer pick x right own #0 pick x left own #0", (0, 0),
             ([("x", "once", ("menu", a, b)), (0, "once", b)], b)),
            ("x: a & b |- b & a", "offer pick x right own #0 pick x left own #0", (1, 0),
             ([("x", "once", ("menu", a, b)), (0, "once", a)], a)),
            ("x: c |- w", "make w 1 own x", (0,), ([("x", "once", c)], c)),
            ("x: w |- a", "open x w 0 own #0", (0,), ([("x", "once", w), (0, "once", a)], a)),
            ("x [2/1]: a |- a", "cut [2/1] (a) own x own #0", (0,), ([("x", (2, 1), a)], a)),
            ("x [2/1]: a |- a", "cut [2/1] (a) own x own #0", (1,), ([("x", (2, 1), a), (0, (2, 1), a)], a)),
            ("|- a > a", "cite e", (), ([], ("trade", "once", a, a))),
        ]:
            self.assertEqual(self.at(claim, derivation, path), expected)

    def test_no_part(self):
        for path in [(2,), (-1,), (0, 1), (1, 0), (0, 0, 0), (0, 7, 7)]:
            told = ("f: a [2/1] > b, s [2/1]: a & c |- b", "pay f [2/1] pick s left own #0 own #0", path)
            self.assertEqual(error_of(self.at, *told), ("NoPart", {"path": path}))

    def test_the_list_is_new(self):
        check_new(self, lambda path: self.at("x: a |- a & a", "offer own x own x", path), ())
        check_new(self, lambda path: self.at("x: a |- a & a", "offer own x own x", path), (0,))

    def test_each_part_is_what_the_checker_says(self):
        source = random.Random(320)
        for _ in range(60):
            library = draw_full_library(source)
            claim, derivation = draw_derivation(source, library, 4)
            self.assertEqual(claim_at(library, claim, derivation, ()), (list(claim[0]), claim[1]))
            for path, name in walk(derivation):
                scope, goal = claim_at(library, claim, derivation, path)
                row = part(derivation, path)
                found = {ref: sentence for ref, kind, sentence in scope}
                self.assertEqual([ref for ref in found if isinstance(ref, int)],
                                 list(range(len(found) - len(claim[0]))))
                self.assertEqual([hold[:2] for hold in scope][:len(claim[0])],
                                 [(held, hold_of(claim, held)[0]) for held in list(found)[:len(claim[0])]])
                if name == "own":
                    self.assertEqual(found[row[1]], goal)
                if name == "cite":
                    self.assertEqual(library.entry(row[1])[0], goal)


if __name__ == "__main__":
    unittest.main()
