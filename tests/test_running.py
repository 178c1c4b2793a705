"""Points 41 and 42: runs."""

import random
import unittest

from drawing import draw_derivation, draw_full_library
from helper import check_new
from heldproofs.checking import accepts
from heldproofs.library import Library
from heldproofs.rows import is_bare, row_count
from heldproofs.rowtext import parse_derivation
from heldproofs.running import finish, run
from heldproofs.sentencetext import parse_sentence
from heldproofs.stepping import do_step, steps
from heldproofs.tallies import tally

FIRST = parse_derivation("cut [2/1] (a) own x pay f [2/1] own #0 own #1")


def plain_run(library, derivation, choices, limit):
    """Point 41 to the letter."""
    taken = []
    for i in range(limit):
        found = steps(library, derivation)
        if not found:
            break
        c = choices[i % len(choices)] if choices else 0
        taken.append(found[c % len(found)])
        derivation = do_step(library, derivation, taken[-1])
    return derivation, taken


class RunTest(unittest.TestCase):
    def test_example_of_the_interface(self):
        self.assertEqual(run(Library(), FIRST, [1, 0]),
                         (("pay", "f", (2, 1), ("own", "x"), ("own", 0)), [((), "right"), ((0,), "left")]))

    def test_choices(self):
        right = ((), "right")
        for choices, expected in [
            ([], [((), "left")]), ([0], [((), "left")]), ([2, 7], [((), "left")]), ([1], [right, ((0,), "right")]),
            ([1, 0], [right, ((0,), "left")]), ([1, 0, 5, 6, 7], [right, ((0,), "left")]),
            ([999999999], [right, ((0,), "right")]), ([3, 2], [right, ((0,), "left")]),
        ]:
            last, taken = run(Library(), FIRST, choices)
            self.assertEqual(taken, expected)
            self.assertEqual(last, parse_derivation("pay f [2/1] own x own #0"))

    def test_the_limit(self):
        self.assertEqual(run(Library(), FIRST, [1], limit=0), (FIRST, []))
        after = do_step(Library(), FIRST, ((), "right"))
        self.assertEqual(run(Library(), FIRST, [1], limit=1), (after, [((), "right")]))
        self.assertEqual(len(run(Library(), FIRST, [1], limit=2)[1]), 2)
        self.assertEqual(run(Library(), FIRST, [1], limit=3), run(Library(), FIRST, [1]))
        self.assertEqual(run(Library(), FIRST, [], limit=0), (FIRST, []))

    def test_the_limit_is_1000_if_nothing_is_said(self):
        sentence, derivation = ("word", "a"), parse_derivation("own x")
        for _ in range(9):
            derivation = ("cut", "once", sentence, derivation, parse_derivation("offer own #0 own #0"))
            sentence = ("menu", sentence, sentence)
        self.assertEqual(len(run(Library(), derivation, [])[1]), 1000)
        ended, taken = run(Library(), derivation, [], limit=1001)
        self.assertEqual(len(taken), 1001)
        self.assertEqual(len(run(Library(), derivation, [], limit=3000)[1]), 2 ** 10 - 3)

    def test_no_steps(self):
        for text in ["own x", "take own #0", "cite none", "cut once (a > a) cite none pay #0 once own s own #1"]:
            derivation = parse_derivation(text)
            self.assertEqual(run(Library(), derivation, [3, 1]), (derivation, []))

    def test_results_are_new(self):
        check_new(self, lambda choices: run(Library(), FIRST, choices), [1, 0])
        check_new(self, lambda choices: run(Library(), FIRST, choices, limit=0), [1])

    def test_drawn(self):
        source = random.Random(41)
        bare = 0
        for _ in range(150):
            library = draw_full_library(source)
            claim, derivation = draw_derivation(source, library, source.choice([2, 3, 4]))
            first = tally(library, derivation)
            if first.load > 500 or first.rows > 2000:
                continue
            choices = [source.randrange(9) for _ in range(source.randrange(8))]
            for limit in [0, 1, 7, 1000]:
                last, taken = run(library, derivation, choices, limit=limit)
                self.assertEqual((last, taken), plain_run(library, derivation, choices, limit))
                self.assertLessEqual(len(taken), min(limit, first.load))
            for ended in [last, finish(library, derivation)]:
                self.assertEqual(steps(library, ended), [])
                self.assertTrue(accepts(library, claim, ended))
                self.assertLessEqual(tally(library, ended).rows, first.rows)
                # Point 42.
                self.assertTrue(is_bare(ended) or not library.is_whole)
            bare += is_bare(last) and not is_bare(derivation)
        self.assertGreater(bare, 80)


class FinishTest(unittest.TestCase):
    def test_a_library_that_is_not_whole(self):
        library = Library()
        library.define("w", makes=[parse_sentence("a")], opens=[parse_sentence("a"), parse_sentence("b")])
        stuck = parse_derivation("cut once (w) make w 0 own x open #0 w 1 own #1")
        self.assertEqual(finish(library, stuck), stuck)
        self.assertEqual(run(library, stuck, []), (stuck, []))
        free = parse_derivation("cut once (w) make w 0 own x open #0 w 0 own #1")
        self.assertEqual(finish(library, free), ("own", "x"))

    def test_a_whole_library(self):
        library = Library()
        library.define("w", makes=[parse_sentence("a & b")], opens=[parse_sentence("a")])
        library.keep("e", parse_sentence("a & b > a"),
                     parse_derivation("take cut once (w) make w 0 own #0 open #1 w 0 own #2"))
        derivation = parse_derivation("cut once (a & b > a) cite e pay #0 once own x own #1")
        self.assertEqual(finish(library, derivation), parse_derivation("pick x left own #0"))

    def test_what_is_without_steps_already(self):
        for text in ["own x", "take own #0", "pay f [2/1] own x own #0", "cite none"]:
            self.assertEqual(finish(Library(), parse_derivation(text)), parse_derivation(text))

    def test_many_copies(self):
        trade = parse_sentence("p > p")
        derivation = parse_derivation("take pay x once own #0 own #1")
        for _ in range(5):
            chain = parse_derivation("take pay #0 once own #1 pay #0 once own #2 own #3")
            derivation = ("cut", (2, 0), trade, derivation, chain)
        claim = ((("x", (32, 0), trade),), trade)
        self.assertTrue(accepts(Library(), claim, derivation))
        ended = finish(Library(), derivation)
        self.assertTrue(accepts(Library(), claim, ended))
        self.assertEqual((is_bare(ended), row_count(ended)), (True, 2 * 32 + 2))


if __name__ == "__main__":
    unittest.main()
