"""Points 44, 46 and 47: tallies and greatest plays. Point 48 is in test_stepping."""

import random
import unittest

from drawing import draw_derivation, draw_full_library
from heldproofs.library import Library
from heldproofs.rowtext import parse_derivation
from heldproofs.sentences import trade, word
from heldproofs.sentencetext import parse_sentence
from heldproofs.tallies import Tally, greatest_play, tally
from plain import pairs_of, plain_plays

A, B = word("a"), word("b")
TRIPLES = [(0, 0, 0), (1, 0, 0), (1, 1, 0), (2, 7, 1), (3, 30, 17), (1, 5, 9)]


def tallied(plays):
    return (len(plays), sum([rows for rows, load in plays]), sum([load for rows, load in plays]))


class TallyTest(unittest.TestCase):
    def test_attributes(self):
        made = Tally(2, 7, 3)
        self.assertEqual(vars(made), {"plays": 2, "rows": 7, "load": 3})
        self.assertEqual(made.triple(), (2, 7, 3))
        self.assertIs(type(made.triple()), tuple)

    def test_operators(self):
        for a in TRIPLES:
            for b in TRIPLES:
                self.assertEqual((Tally(*a) + Tally(*b)).triple(), tuple([x + y for x, y in zip(a, b)]))
                expected = (a[0] * b[0], a[1] * b[0] + b[1] * a[0], a[2] * b[0] + b[2] * a[0])
                self.assertEqual((Tally(*a) * Tally(*b)).triple(), expected)
                self.assertIs(type(Tally(*a) * Tally(*b)), Tally)

    def test_copied(self):
        for a in TRIPLES:
            expected = Tally(1, 0, 0)
            for count in range(20):
                self.assertEqual(Tally(*a).copied(count).triple(), expected.triple())
                expected = expected * Tally(*a)
        self.assertEqual(Tally(5, 6, 7).copied(0).triple(), (1, 0, 0))
        self.assertEqual(Tally(2, 3, 5).copied(400).triple(), (2 ** 400, 400 * 3 * 2 ** 399, 400 * 5 * 2 ** 399))

    def test_taller_loaded_and_cut(self):
        for plays, rows, load in TRIPLES:
            for more in (0, 1, 5):
                made = Tally(plays, rows, load)
                self.assertEqual(made.taller(more).triple(), (plays, rows + more * plays, load))
                self.assertEqual(made.loaded(more).triple(), (plays, rows, load + more * plays))
                self.assertEqual(made.cut(more).triple(), (plays, rows, load + more * (rows - plays)))
                self.assertEqual(made.triple(), (plays, rows, load))

    def test_against_lists_of_plays(self):
        source = random.Random(46)
        for _ in range(100):
            a, b = [[(source.randrange(9), source.randrange(9)) for _ in range(source.randrange(5))] for _ in "ab"]
            first, second = Tally(*tallied(a)), Tally(*tallied(b))
            self.assertEqual((first + second).triple(), tallied(a + b))
            self.assertEqual((first * second).triple(), tallied(pairs_of(a, b)))
            self.assertEqual(first.copied(3).triple(), tallied(pairs_of(pairs_of(a, a), a)))
            self.assertEqual(first.cut(4).triple(), tallied([(rows, load + 4 * (rows - 1)) for rows, load in a]))
            self.assertEqual(first.taller(2).loaded(3).triple(), tallied([(rows + 2, load + 3) for rows, load in a]))


class RowsTest(unittest.TestCase):
    def setUp(self):
        self.library = Library()
        self.library.define("w", makes=[parse_sentence("a & b"), A], opens=[A, B])
        self.library.define("v", opens=[A])
        self.library.keep("e", parse_sentence("a > a"), parse_derivation("take own #0"))
        self.library.keep("f", parse_sentence("a > a"), parse_derivation("cut once (a > a) cite e own #0"))

    def check(self, text, triple, greatest):
        derivation = parse_derivation(text)
        found = tally(self.library, derivation)
        self.assertIs(type(found), Tally)
        self.assertEqual(found.triple(), triple, text)
        self.assertEqual(greatest_play(self.library, derivation), greatest)
        plays = plain_plays(self.library, derivation)
        self.assertEqual((tallied(plays), max(plays)[0]), (triple, greatest))

    def test_example_of_the_interface(self):
        self.check("cut [2/1] (a) own x pay f [2/1] own #0 own #1", (1, 10, 18), 10)

    def test_rows_without_parts(self):
        self.check("own x", (1, 1, 0), 1)
        self.check("take own #0", (1, 2, 0), 2)
        self.check("make w 1 own x", (1, 2, 0), 2)
        self.check("pick x left own #0", (1, 2, 0), 2)
        self.check("take take pick x left own #0", (1, 4, 0), 4)

    def test_offer(self):
        self.check("offer own x own y", (2, 4, 0), 2)
        self.check("offer own x take own #0", (2, 5, 0), 3)
        self.check("offer take own #0 own x", (2, 5, 0), 3)
        self.check("offer offer own x own x own x", (3, 8, 0), 3)

    def test_pay(self):
        self.check("pay f once own s own #0", (1, 3, 0), 3)
        self.check("pay f [1/0] own s own #0", (1, 4, 0), 4)
        self.check("pay f [2/0] own s own #0", (1, 6, 0), 6)
        self.check("pay f once offer own s own s own #0", (2, 8, 0), 4)
        self.check("pay f [3/9] offer own s take own #0 own #0", (8, 100, 0), 14)
        self.check("pay f once offer own s own s offer own #0 own #0", (4, 20, 0), 5)

    def test_cut(self):
        self.check("cut once (a) own x own #0", (1, 2, 1), 2)
        self.check("cut once (a > a) own x own #0", (1, 2, 2), 2)
        self.check("cut [1/0] (a) own x own #0", (1, 3, 2), 3)
        self.check("cut [2/0] (a) own x own #0", (1, 5, 8), 5)
        self.check("cut [2/0] (a) own x own y", (1, 5, 8), 5)
        self.check("cut [2/0] (a & b) offer own x own x own y", (4, 28, 2 * 24), 7)
        self.check("cut once (w) make w 1 own x open #0 w 0 own #1", (1, 7, 3 * 6), 7)
        self.check("cut once (a) cut once (a) own x own #0 own #0", (1, 3, 1 + 2), 3)
        self.check("cut [2/0] (a) cut once (a) own x own #0 own #0", (1, 7, 2 + 12), 7)

    def test_open(self):
        # Make 0 meets both opens in 2 rows, make 1 meets open 0 in 1 row; v has no makes.
        self.check("open x w 0 own #0", (1, 1 + 1 + 2 + 1, 0), 5)
        self.check("open x w 1 own #0", (1, 1 + 1 + 2, 0), 4)
        self.check("open x v 0 own #0", (1, 2, 0), 2)
        self.check("open x w 0 offer own #0 own #0", (2, 12, 0), 6)

    def test_open_with_several_plays_of_a_meeting(self):
        self.library.define("u", makes=[parse_sentence("a")], opens=[parse_sentence("a & a")])
        self.assertEqual(self.library.meeting("u", 0, 0), parse_derivation("offer own from own from"))
        self.check("open x u 0 own #0", (2, 8, 0), 4)
        self.check("pay f [2/0] open x u 0 own #0 own #0", (4, 48, 0), 12)

    def test_cite(self):
        self.check("cite e", (1, 3, 1), 3)
        self.check("cite f", (1, 5, 1 + 1 + 2 * 3), 5)
        self.check("offer cite e cite e", (2, 8, 2), 4)

    def test_against_the_definition(self):
        source = random.Random(47)
        tried = 0
        for _ in range(300):
            library = draw_full_library(source)
            claim, derivation = draw_derivation(source, library, source.choice([2, 3, 4]))
            if tally(library, derivation).plays < 2000:
                plays = plain_plays(library, derivation)
                self.assertEqual(tally(library, derivation).triple(), tallied(plays))
                self.assertEqual(greatest_play(library, derivation), max([rows for rows, load in plays]))
                tried += 1
        self.assertGreater(tried, 250)


class OnceInACallTest(unittest.TestCase):
    """What occurs often is reckoned once: these would not end otherwise."""

    def test_doubling_entries(self):
        library = Library()
        library.keep("e0", parse_sentence("a > a"), parse_derivation("take own #0"))
        rows, load, greatest = 2, 0, 2
        for at in range(1, 12):
            library.keep(f"e{at}", parse_sentence("a > a"), parse_derivation(
                f"cut once (a > a) cite e{at - 1} cut once (a > a) cite e{at - 1} "
                "take pay #0 once own #2 pay #1 once own #3 own #4"))
            inner = 6 + rows + 1
            load = 2 * (load + 1) + 2 * (inner - 1) + 2 * (inner + rows + 1 - 1)
            rows = inner + rows + 1
            self.assertEqual(tally(library, ("cite", f"e{at}")).triple(), (1, rows + 1, load + 1))
            self.assertEqual(greatest_play(library, ("cite", f"e{at}")), rows + 1)
        self.assertGreater(rows, 10000)

    def test_entries_with_many_plays(self):
        library = Library()
        library.keep("e0", parse_sentence("a > a & a"), parse_derivation("take offer own #0 own #0"))
        plays, rows = 2, 6
        sentence = parse_sentence("a > a & a")
        for at in range(1, 11):
            library.keep(f"e{at}", ("menu", sentence, sentence), parse_derivation(f"offer cite e{at - 1} cite e{at - 1}"))
            sentence = ("menu", sentence, sentence)
            plays, rows = 2 * plays, 2 * (rows + 2 * plays)
            self.assertEqual(tally(library, ("cite", f"e{at}")).triple()[:2], (plays, rows + plays))

    def test_doubling_meetings(self):
        # The meeting of each word opens the word before it twice.
        library = Library()
        opened = word("b0")
        library.define("w0", makes=[opened], opens=[opened])
        for at in range(1, 8):
            before, goods = word(f"w{at - 1}"), word(f"b{at}")
            made, opened = trade(opened, trade(opened, goods)), trade(before, trade(before, goods))
            library.define(f"w{at}", makes=[made], opens=[opened])
            meeting = library.meeting(f"w{at}", 0, 0)
            if at < 6:
                self.assertEqual(greatest_play(library, meeting), max(plain_plays(library, meeting))[0])
                self.assertEqual(tally(library, meeting).triple(), tallied(plain_plays(library, meeting)))
        self.assertTrue(library.is_whole)
        self.assertEqual(greatest_play(library, meeting), 2027)

    def test_deep_entries(self):
        library = Library()
        name, rows = None, 0
        for at in range(12):
            row = ("cite", name) if name else ("take", ("own", 55))
            for level in reversed(range(55)):
                row = ("cut", (1, 0), parse_sentence("a > a"), ("take", ("own", level)), row)
            library.keep(f"e{at}", parse_sentence("a > a"), row)
            name, rows = f"e{at}", 55 * 3 + (rows + 1 if rows else 2)
            self.assertEqual(greatest_play(library, row), rows)

    def test_an_entry_that_is_not_cited_costs_nothing(self):
        # Each of these alone is within the limits, but not what it cites together with it.
        library = Library()
        library.keep("e0", parse_sentence("a > a & a"), parse_derivation("take offer own #0 own #0"))
        for at in range(1, 12):
            library.keep(f"e{at}", parse_sentence("a > a & a"), parse_derivation(
                f"cut [300/0] (a > a & a) cite e{at - 1} take pay #0 once own #1 own #2"))
        self.assertEqual(tally(library, parse_derivation("cite e0")).triple(), (2, 8, 2))


if __name__ == "__main__":
    unittest.main()
