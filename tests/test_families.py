"""Point 50: families of claims and derivations."""

import random
import unittest

from helper import holds_no_list
from heldproofs.checking import accepts
from heldproofs.claimtext import format_claim
from heldproofs.families import copying_family, doubling_family, passing_family
from heldproofs.library import Library
from heldproofs.playing import plays
from heldproofs.rows import is_bare, walk
from heldproofs.rowtext import format_derivation
from heldproofs.running import finish, run
from heldproofs.stepping import do_step, step_name, steps
from heldproofs.tallies import tally


def counted(derivation, name):
    return len([path for path, other in walk(derivation) if other == name])


class FamilyTest(unittest.TestCase):
    def check(self, found, claim, derivation):
        self.assertIs(type(found), tuple)
        self.assertEqual((format_claim(found[0]), format_derivation(found[1])), (claim, derivation))
        self.assertTrue(holds_no_list(found))
        self.assertTrue(accepts(Library(), found[0], found[1]))


class PassingTest(FamilyTest):
    def test_small(self):
        self.check(passing_family(0, 0), "x: p |- p", "cut once (p) own x own #0")
        self.check(passing_family(1, 0), "x: p & q |- p", "cut once (p) pick x left own #0 own #0")
        self.check(passing_family(0, 1), "x: p |- q [1/0] > p", "cut once (p) own x take own #0")
        self.check(passing_family(1, 1), "x: p & q |- q [1/0] > p", "cut once (p) pick x left own #0 take own #0")
        self.check(passing_family(2, 2), "x: p & q & q |- q [1/0] > q [1/0] > p",
                   "cut once (p) pick x left pick #0 left own #1 take take own #0")
        self.check(passing_family(3, 1), "x: p & q & q & q |- q [1/0] > p",
                   "cut once (p) pick x left pick #0 left pick #1 left own #2 take own #0")

    def test_greatest(self):
        picks = "pick x left " + "".join([f"pick #{level} left " for level in range(49)]) + "own #49 "
        self.check(passing_family(50, 50), "x: p" + " & q" * 50 + " |- " + "q [1/0] > " * 50 + "p",
                   "cut once (p) " + picks + "take " * 50 + "own #0")
        self.check(passing_family(50, 0), "x: p" + " & q" * 50 + " |- p", "cut once (p) " + picks + "own #0")
        self.check(passing_family(0, 50), "x: p |- " + "q [1/0] > " * 50 + "p",
                   "cut once (p) own x " + "take " * 50 + "own #0")

    def test_load_and_steps(self):
        for left in (0, 1, 2, 3, 7):
            for right in (0, 1, 2, 5):
                claim, derivation = passing_family(left, right)
                self.assertEqual(tally(Library(), derivation).load, left + right + 1)
                taken = 0
                while steps(Library(), derivation):
                    found = steps(Library(), derivation)
                    passing = [step for step in found if step_name(Library(), derivation, step).startswith("pass")]
                    derivation = do_step(Library(), derivation, (passing + found)[0])
                    taken += 1
                self.assertEqual(taken, left + right + 1)
                self.assertTrue(is_bare(derivation))

    def test_the_greatest_load(self):
        self.assertEqual(tally(Library(), passing_family(50, 50)[1]).triple(), (1, 102, 101))


class DoublingTest(FamilyTest):
    def test_small(self):
        self.check(doubling_family(0), "x: p |- p", "own x")
        self.check(doubling_family(1), "x: p |- p & p", "cut once (p) own x offer own #0 own #0")
        self.check(doubling_family(2), "x: p |- p & p & (p & p)",
                   "cut once (p & p) cut once (p) own x offer own #0 own #0 offer own #0 own #0")

    def test_greatest(self):
        sentence, text = "p", "own x"
        for _ in range(8):
            text = f"cut once ({sentence}) {text} offer own #0 own #0"
            inner = f"({sentence})" if "&" in sentence else sentence
            sentence = sentence + " & " + inner
        self.check(doubling_family(8), "x: p |- " + sentence, text)

    def test_plays_and_ends(self):
        for count in range(9):
            claim, derivation = doubling_family(count)
            self.assertEqual(tally(Library(), derivation).plays, 2 ** count)
            self.assertEqual(len(plays(Library(), derivation)), 2 ** count)
            if count > 5:
                continue
            source = random.Random(count)
            for choices in [[], [source.randrange(9) for _ in range(7)]]:
                ended, taken = run(Library(), derivation, choices)
                self.assertEqual(counted(ended, "own"), 2 ** count)
                self.assertEqual(counted(ended, "offer"), 2 ** count - 1)
                self.assertEqual(len(list(walk(ended))), 2 ** (count + 1) - 1)
                self.assertTrue(accepts(Library(), claim, ended))


class CopyingTest(FamilyTest):
    def test_small(self):
        single = "take pay x once own #0 own #1"
        double = "take pay #0 once own #1 pay #0 once own #2 own #3"
        self.check(copying_family(0, 1), "x [1/0]: p > p |- p > p", single)
        self.check(copying_family(0, 7), "x [1/0]: p > p |- p > p", single)
        self.check(copying_family(1, 1), "x [1/0]: p > p |- p > p",
                   f"cut [1/0] (p > p) {single} take pay #0 once own #1 own #2")
        self.check(copying_family(1, 2), "x [2/0]: p > p |- p > p", f"cut [2/0] (p > p) {single} {double}")
        self.check(copying_family(2, 2), "x [4/0]: p > p |- p > p",
                   f"cut [2/0] (p > p) cut [2/0] (p > p) {single} {double} {double}")

    def test_greatest(self):
        def chain(count):
            pays = "".join([f"pay #0 once own #{1 + at} " for at in range(count)])
            return f"take {pays}own #{1 + count}"

        single = "take pay x once own #0 own #1"
        for count, uses, many in [(1, 50, 50), (2, 7, 49), (3, 3, 27), (5, 2, 32), (6, 1, 1)]:
            text = single
            for _ in range(count):
                text = f"cut [{uses}/0] (p > p) {text} {chain(uses)}"
            self.check(copying_family(count, uses), f"x [{many}/0]: p > p |- p > p", text)

    def test_ends(self):
        for count, uses in [(0, 1), (1, 1), (1, 2), (2, 2), (1, 5), (3, 2), (2, 3), (6, 1)]:
            claim, derivation = copying_family(count, uses)
            for ended in [finish(Library(), derivation), run(Library(), derivation, [3, 0, 5])[0]]:
                self.assertEqual(len(list(walk(ended))), 2 * uses ** count + 2)
                self.assertTrue(accepts(Library(), claim, ended))
                self.assertTrue(is_bare(ended))

    def test_greatest_end(self):
        claim, derivation = copying_family(1, 50)
        self.assertEqual(len(list(walk(finish(Library(), derivation)))), 102)


if __name__ == "__main__":
    unittest.main()
