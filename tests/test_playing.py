"""Points 44 and 45: the plays of a derivation, one by one."""

import random
import unittest

from drawing import draw_derivation, draw_full_library
from helper import check_new
from heldproofs.families import doubling_family
from heldproofs.library import Library
from heldproofs.playing import PlayList, plays
from heldproofs.rowtext import parse_derivation
from heldproofs.sentences import word
from heldproofs.sentencetext import parse_sentence
from heldproofs.tallies import greatest_play, tally
from plain import plain_plays

A, B = word("a"), word("b")


class PlaysTest(unittest.TestCase):
    def setUp(self):
        self.library = Library()
        self.library.define("w", makes=[parse_sentence("a & b"), A], opens=[A, B])
        self.library.define("v", opens=[A])
        self.library.keep("e", parse_sentence("a > a"), parse_derivation("take own #0"))
        self.library.keep("f", parse_sentence("a > a"), parse_derivation("cut once (a > a) cite e own #0"))
        self.library.keep("o", parse_sentence("a > a & (b [1/0] > a)"), parse_derivation("take offer own #0 take own #0"))

    def check(self, text, *expected):
        derivation = parse_derivation(text)
        found = plays(self.library, derivation)
        self.assertIs(type(found), list)
        self.assertTrue(all(type(play) is tuple for play in found))
        self.assertEqual(sorted(found), sorted(expected), text)
        total = (len(found), sum([rows for rows, load in found]), sum([load for rows, load in found]))
        self.assertEqual(tally(self.library, derivation).triple(), total)
        self.assertEqual(greatest_play(self.library, derivation), max(found)[0])

    def test_example_of_the_interface(self):
        self.check("cut [2/0] (a) own x own #0", (5, 8))
        self.assertEqual(plays(Library(), parse_derivation("cut [2/0] (a) own x own #0")), [(5, 8)])

    def test_rows_with_one_play(self):
        self.check("own x", (1, 0))
        self.check("take own #0", (2, 0))
        self.check("make w 1 own x", (2, 0))
        self.check("pick x left own #0", (2, 0))
        self.check("take make w 0 pick x right own #1", (4, 0))

    def test_offer(self):
        self.check("offer own x own y", (2, 0), (2, 0))
        self.check("offer own x take own #0", (2, 0), (3, 0))
        self.check("offer take own #0 own x", (3, 0), (2, 0))
        self.check("take offer offer own x own x own x", (4, 0), (4, 0), (3, 0))

    def test_pay_once(self):
        self.check("pay f once own s own #0", (3, 0))
        self.check("pay f once offer own s take own s own #0", (4, 0), (5, 0))
        self.check("pay f once offer own s take own s offer own #0 take own #0", (5, 0), (6, 0), (6, 0), (7, 0))

    def test_pay_in_stock(self):
        self.check("pay f [2/0] own s own #0", (6, 0))
        self.check("pay f [1/5] own s own #0", (4, 0))
        # Each of the two plays of paid is chosen for itself: 3 or 4 rows, for each of them.
        self.check("pay f [2/0] offer own s take own s own #0", (8, 0), (9, 0), (9, 0), (10, 0))
        self.check("pay f [3/1] offer own s take own s own #0", *[(11, 0)] + [(12, 0)] * 3 + [(13, 0)] * 3 + [(14, 0)])
        self.check("pay f [2/0] offer own s own s offer own #0 own #0", *[(9, 0)] * 8)

    def test_cut(self):
        self.check("cut once (a) own x own #0", (2, 1))
        self.check("cut once (a > a) own x own #0", (2, 2))
        self.check("cut [1/0] (a) own x own #0", (3, 2))
        self.check("cut [2/0] (a [3/0] > a) own x own #0", (5, 2 * 4 * 4))
        # Sources of 2 or 3 rows; a play of 2 + 1 rows has less load than one of 3 + 1.
        self.check("cut once (a) offer own x take own x own #0", (3, 2), (4, 3))
        self.check("cut [2/0] (a) offer own x take own x own #0", (7, 12), (8, 14), (8, 14), (9, 16))
        self.check("cut once (a) own x offer own #0 take own #0", (3, 2), (4, 3))
        self.check("cut once (a) cut once (a) own x own #0 own #0", (3, 1 + 2))
        self.check("cut once (w) own x own #0", (2, 3))

    def test_open(self):
        # Open 1 of w has the meeting of make 0 alone, open 0 those of both makes; v has no makes.
        self.check("open x v 0 own #0", (2, 0))
        self.check("open x none 7 own #0", (2, 0))
        self.check("open x w 1 own #0", (2 + 2, 0))
        self.check("open x w 0 own #0", (2 + 2 + 1, 0))
        self.check("open x w 0 offer own #0 take own #0", (6, 0), (7, 0))
        self.check("open x w 5 own #0", (2, 0))

    def test_open_with_several_plays_of_its_meetings(self):
        self.library.define("m", makes=[A, parse_sentence("a & b")], opens=[parse_sentence("a & a")])
        # The meetings are offers, of 2 rows each way and of 3 rows each way.
        self.check("open x m 0 own #0", *[(2 + 2 + 3, 0)] * 4)
        self.library.define("n", makes=[word("w")], opens=[A, B])
        # The meetings of n open w: 1 row with its 3 rows of meetings, or 1 row with 2, and own on top.
        self.check("open x n 0 own #0", (2 + 5, 0))
        self.check("open x n 1 own #0", (2 + 4, 0))

    def test_cite(self):
        self.check("cite e", (3, 1))
        # f has 3 rows and own, with a load of 1 for cite and of 2 * (4 - 1) for its cut.
        self.check("cite f", (5, 1 + 6 + 1))
        self.check("cite o", (4, 1), (5, 1))
        self.check("offer cite e cite o", (4, 1), (5, 1), (6, 1))
        self.check("cut once (a > a) cite e own #0", (4, 1 + 2 * 3))

    def test_many_plays(self):
        claim, derivation = doubling_family(8)
        found = plays(Library(), derivation)
        self.assertEqual(len(found), 256)
        self.assertEqual(len(plays(Library(), parse_derivation("pay f [12/0] offer own s own s own #0"))), 4096)
        self.assertEqual(plays(Library(), parse_derivation("pay f [300/0] own s own #0")), [(602, 0)])

    def test_results_are_new(self):
        for text in ["own x", "cite e", "offer own x own y", "open x w 0 own #0"]:
            derivation = parse_derivation(text)
            check_new(self, lambda: plays(self.library, derivation))

    def test_drawn(self):
        source = random.Random(44)
        several = 0
        for _ in range(300):
            library = draw_full_library(source)
            claim, derivation = draw_derivation(source, library, source.choice([2, 3, 4]))
            if tally(library, derivation).plays > 400:
                continue
            found = plays(library, derivation)
            self.assertEqual(sorted(found), sorted(plain_plays(library, derivation)))
            several += len(found) > 1
        self.assertGreater(several, 30)


class PlayListTest(unittest.TestCase):
    def test_operators(self):
        first, second = PlayList([(1, 0), (2, 5)]), PlayList([(3, 1)])
        self.assertEqual((first + second).pairs, [(1, 0), (2, 5), (3, 1)])
        self.assertEqual((first * second).pairs, [(4, 1), (5, 6)])
        self.assertEqual(sorted((first * first).pairs), [(2, 0), (3, 5), (3, 5), (4, 10)])
        self.assertEqual(first.copied(0).pairs, [(0, 0)])
        self.assertEqual(sorted(first.copied(2).pairs), [(2, 0), (3, 5), (3, 5), (4, 10)])
        self.assertEqual(first.taller(2).pairs, [(3, 0), (4, 5)])
        self.assertEqual(first.loaded(2).pairs, [(1, 2), (2, 7)])
        self.assertEqual(first.cut(3).pairs, [(1, 0), (2, 8)])
        self.assertEqual((first.pairs, second.pairs), ([(1, 0), (2, 5)], [(3, 1)]))


if __name__ == "__main__":
    unittest.main()
