"""Points 74 to 79: the library."""

import random
import unittest

from drawing import draw_derivation, draw_full_library, draw_library
from helper import boxes_in, check_new, error_of
from heldproofs.checking import accepts
from heldproofs.claims import bare_claim
from heldproofs.claimtext import parse_claim
from heldproofs.library import Library, unfolded
from heldproofs.moving import moved
from heldproofs.rows import is_bare, level_at, part, walk, with_part
from heldproofs.rowtext import parse_derivation
from heldproofs.searching import search
from heldproofs.sentencetext import parse_sentence
from plain import is_refutation

A, B, C = ("word", "a"), ("word", "b"), ("word", "c")


def sentences(*texts):
    return [parse_sentence(text) for text in texts]


def contents(library):
    """All that a library tells."""
    words = {name: (library.makes_of(name), library.opens_of(name),
                    [library.meeting(name, i, j) for i in range(4) for j in range(4)]) for name in library}
    entries = {name: library.entry(name) for name in library.entry_names()}
    return (list(library), words, library.entry_names(), entries, library.gaps(), library.is_whole,
            library.changes, len(library))


class LibraryTest(unittest.TestCase):
    def refuses(self, library, error, call, *told, **more):
        """A call raises the error and changes nothing."""
        before = contents(library)
        self.assertEqual(error_of(call, *told, **more), error)
        self.assertEqual(contents(library), before)


class ContentsTest(LibraryTest):
    def test_example_of_the_interface(self):
        library = Library()
        library.define("w", makes=sentences("a & b"), opens=sentences("a", "c"))
        self.assertEqual([library.meeting("w", 0, 0), library.meeting("w", 0, 1), library.is_whole, library.changes],
                         [("pick", "from", "left", ("own", 0)), None, False, 1])

    def test_nothing_at_first(self):
        library = Library()
        self.assertEqual(contents(library), ([], {}, [], {}, [], True, 0, 0))
        self.assertEqual(vars(library)["changes"], 0)
        self.assertNotIn("w", library)
        self.assertEqual((library.makes_of("w"), library.opens_of("w"), library.meeting("w", 0, 0)), ([], [], None))
        self.assertEqual(error_of(library.entry, "w"), ("UnknownName", {"name": "w"}))

    def test_defined_words_in_their_order(self):
        library = Library()
        for name in ["w", "b1", "z", "a1"]:
            self.assertIsNone(library.define(name))
            self.assertIn(name, library)
        self.assertIsNone(library.undefine("b1"))
        library.define("b1", opens=[A])
        self.assertEqual((list(library), len(library), library.changes), (["w", "z", "a1", "b1"], 4, 6))
        self.assertEqual([name for name in library], list(library))
        self.assertEqual((library.makes_of("b1"), library.opens_of("b1")), ([], [A]))

    def test_entries_in_their_order(self):
        library = Library()
        sentence, derivation = parse_sentence("a > a"), parse_derivation("take own #0")
        for name in ["w", "b", "z", "a"]:
            self.assertIsNone(library.keep(name, sentence, derivation))
        self.assertIsNone(library.forget("b"))
        library.keep("b", parse_sentence("b > b"), derivation)
        self.assertEqual((library.entry_names(), library.changes), (["w", "z", "a", "b"], 6))
        self.assertEqual(library.entry("b"), (parse_sentence("b > b"), derivation))
        self.assertEqual((len(library), "b" in library), (0, False))

    def test_makes_and_opens_as_lists_and_tuples(self):
        library = Library()
        makes, opens = [A, B], (C,)
        library.define("w", makes=makes, opens=opens)
        makes.clear()
        self.assertEqual((library.makes_of("w"), library.opens_of("w")), ([A, B], [C]))

    def test_lists_told_are_independent(self):
        library = Library()
        library.define("w", makes=[A, B], opens=[A, C])
        library.keep("e", parse_sentence("a > a"), parse_derivation("take own #0"))
        for call, told in [(library.makes_of, "w"), (library.opens_of, "w"), (library.makes_of, "none")]:
            check_new(self, call, told)
        check_new(self, lambda: library.entry_names())
        check_new(self, lambda: library.gaps())
        self.assertEqual(len(library.gaps()), 3)


class DefineTest(LibraryTest):
    def test_errors_in_their_order(self):
        library = Library()
        library.define("w", makes=sentences("v > a"))
        for name in ["", "W", "a b", "1a", "abcdefghijklm"]:
            self.refuses(library, ("BadName", {"name": name}), library.define, name, makes=[("word", name)])
        self.refuses(library, ("NameTaken", {"name": "w"}), library.define, "w", makes=sentences("w"))
        self.refuses(library, ("NameTaken", {"name": "w"}), library.define, "w")
        for text in ["v", "a & v", "a > v", "v [2/0] > a", "a > (v & a) > a"]:
            self.refuses(library, ("Circular", {"name": "v"}), library.define, "v", makes=sentences("a", text))
            self.refuses(library, ("Circular", {"name": "v"}), library.define, "v", opens=sentences("a", text))
        self.refuses(library, ("InUse", {"name": "v"}), library.define, "v")
        self.refuses(library, ("InUse", {"name": "a"}), library.define, "a")

    def test_in_use(self):
        library = Library()
        library.define("w", makes=sentences("p > q"), opens=sentences("r & s"))
        library.keep("e", parse_sentence("a > a"), parse_derivation("take cut [1/0] (a & b > a) take pick #1 left "
                                                                    "own #2 own #0"))
        library.keep("f", parse_sentence("w > w"), parse_derivation("take own #0"))
        for name in ["p", "q", "r", "s", "a", "b"]:
            self.refuses(library, ("InUse", {"name": name}), library.define, name, makes=[C])
        self.assertEqual(library.define("e", makes=[C]), None)
        self.refuses(library, ("InUse", {"name": "w"}), library.undefine, "w")
        library.forget("f")
        library.undefine("w")
        library.define("p")

    def test_in_use_by_rows_alone(self):
        opened = parse_derivation("take cut [1/0] (w & v > a) take pick #1 left open #2 w 0 own #3 own #0")
        made = parse_derivation("take cut [1/0] (a > w) take make w 0 own #1 own #0")
        cut = parse_derivation("take cut [1/0] (w > w) take own #1 own #0")
        for derivation in [opened, made, cut]:
            library = Library()
            library.define("w", makes=sentences("a"), opens=sentences("a"))
            library.keep("e", parse_sentence("a > a"), derivation)
            self.refuses(library, ("InUse", {"name": "w"}), library.undefine, "w")
            library.forget("e")
            library.undefine("w")

    def test_in_use_by_a_row_without_its_sentence(self):
        # The word is in no sentence of a cut here, but in rows make and open.
        library = Library()
        library.define("w", makes=sentences("a"), opens=sentences("a"))
        library.define("v", makes=sentences("w"), opens=sentences("w"))
        library.keep("e", parse_sentence("v > v"), parse_derivation("take open #0 v 0 make v 0 own #1"))
        self.refuses(library, ("InUse", {"name": "v"}), library.undefine, "v")
        self.refuses(library, ("InUse", {"name": "w"}), library.undefine, "w")
        library.forget("e")
        library.keep("e", parse_sentence("a > a"),
                     parse_derivation("take cut once (v) make v 0 make w 0 own #0 open #1 v 0 open #2 w 0 own #3"))
        self.refuses(library, ("InUse", {"name": "v"}), library.undefine, "v")

    def test_meetings(self):
        library = Library()
        library.define("w", makes=sentences("a & b", "b", "c > a"), opens=sentences("b", "c > a"))
        self.assertEqual(library.meeting("w", 0, 0), parse_derivation("pick from right own #0"))
        self.assertEqual(library.meeting("w", 1, 0), parse_derivation("own from"))
        self.assertEqual(library.meeting("w", 2, 1), parse_derivation("take pay from once own #0 own #1"))
        for i, j in [(0, 1), (1, 1), (2, 0), (3, 0), (0, 2), (-1, 0), (0, -1), (9, 9)]:
            self.assertIsNone(library.meeting("w", i, j))
        self.assertIsNone(library.meeting("v", 0, 0))
        self.assertEqual([gap[:3] for gap in library.gaps()], [("w", 0, 1), ("w", 1, 1), ("w", 2, 0)])

    def test_without_makes_or_without_opens(self):
        library = Library()
        library.define("w", makes=[A])
        library.define("v", opens=[A])
        library.define("u")
        self.assertEqual((library.gaps(), library.is_whole), ([], True))
        for name in "wvu":
            self.assertIsNone(library.meeting(name, 0, 0))

    def test_meetings_through_earlier_words(self):
        library = Library()
        library.define("v", makes=sentences("a"), opens=sentences("b"))
        library.define("w", makes=sentences("a", "v"), opens=sentences("v", "b"))
        self.assertEqual(library.meeting("w", 0, 0), parse_derivation("make v 0 own from"))
        self.assertEqual(library.meeting("w", 1, 1), parse_derivation("open from v 0 own #0"))
        self.assertEqual([gap[:3] for gap in library.gaps()], [("v", 0, 0), ("w", 0, 1)])

    def test_the_limit(self):
        stock = sentences("a [9/0] > (a [9/0] > b) [9/0] > b")
        for limit, outcomes in [(0, ["open", "open"]), (1, ["open", "open"]), (500, ["shown", "refuted"])]:
            library = Library()
            library.define("w", makes=stock, opens=stock + sentences("a [9/0] > b"), limit=limit)
            self.assertEqual([library.meeting("w", 0, 0) is not None, library.is_whole],
                             [outcomes[0] == "shown", False])
            tables = {(i, j): table for name, i, j, table in library.gaps()}
            self.assertEqual(tables[(0, 1)] is not None, outcomes[1] == "refuted")
            if outcomes[0] == "open":
                self.assertIsNone(tables[(0, 0)])
        library = Library()
        library.define("w", makes=stock, opens=stock, limit=None)
        self.assertTrue(library.is_whole)

    def test_the_limit_is_500_if_nothing_is_said(self):
        # The search looks at one end for the trade and one for each use of its price.
        for uses, is_settled in [(498, True), (499, True), (500, False)]:
            library = Library()
            library.define("w", makes=[C], opens=[("trade", (uses, 0), parse_sentence("a > a"), A)])
            ((name, i, j, table),) = library.gaps()
            self.assertEqual((name, i, j, table is not None), ("w", 0, 0, is_settled))
            answer = search(library, ((("from", "once", C),), library.opens_of("w")[0]))
            self.assertEqual((answer.outcome, answer.looked), ("refuted", uses + 1))

    def test_gaps_in_their_order(self):
        library = Library()
        library.define("w", makes=sentences("a", "b"), opens=sentences("c", "a"))
        library.define("b1", makes=sentences("a"), opens=sentences("c", "b"))
        self.assertEqual([gap[:3] for gap in library.gaps()],
                         [("w", 0, 0), ("w", 1, 0), ("w", 1, 1), ("b1", 0, 0), ("b1", 0, 1)])
        self.assertEqual(library.gaps()[0][3], [((("once", A),), C)])
        self.assertFalse(library.is_whole)
        library.undefine("w")
        library.undefine("b1")
        self.assertTrue(library.is_whole)

    def test_what_gaps_and_meetings_say(self):
        source = random.Random(76)
        met = 0
        for _ in range(150):
            library = draw_library(source)
            tables = {(name, i, j): table for name, i, j, table in library.gaps()}
            self.assertEqual(library.is_whole, not tables)
            for name in library:
                for i, made in enumerate(library.makes_of(name)):
                    for j, opened in enumerate(library.opens_of(name)):
                        claim = ((("from", "once", made),), opened)
                        meeting = library.meeting(name, i, j)
                        self.assertEqual(meeting is None, (name, i, j) in tables)
                        cut = ("cut", "once", ("word", name), ("make", name, i, ("own", "from")),
                               ("open", 0, name, j, ("own", 1)))
                        self.assertTrue(accepts(library, claim, cut))
                        if meeting is None:
                            self.assertTrue(is_refutation(library, tables[(name, i, j)], bare_claim(claim)))
                        else:
                            met += 1
                            self.assertTrue(is_bare(meeting) and accepts(library, claim, meeting))
                            self.assertEqual(meeting, search(library, claim).derivation)
        self.assertGreater(met, 50)

    def test_meetings_stay(self):
        library = Library()
        library.define("w", makes=[A], opens=[A, B])
        before = contents(library)
        library.define("v")
        library.undefine("v")
        after = contents(library)
        self.assertEqual(before[:6], after[:6])
        self.assertEqual(after[6] - before[6], 2)

    def test_undefine(self):
        library = Library()
        library.define("v", makes=[A], opens=[B])
        library.define("w", makes=sentences("v"))
        self.refuses(library, ("UnknownName", {"name": "a"}), library.undefine, "a")
        self.refuses(library, ("UnknownName", {"name": ""}), library.undefine, "")
        self.refuses(library, ("InUse", {"name": "v"}), library.undefine, "v")
        library.undefine("w")
        self.refuses(library, ("UnknownName", {"name": "w"}), library.undefine, "w")
        library.undefine("v")
        self.assertEqual(contents(library), ([], {}, [], {}, [], True, 4, 0))
        library.define("a", opens=sentences("v"))


class EntriesTest(LibraryTest):
    def test_errors_of_keep_in_their_order(self):
        library = Library()
        good = parse_sentence("a > a"), parse_derivation("take own #0")
        bad = parse_sentence("a > b"), parse_derivation("take own #0")
        library.keep("e", *good)
        for name in ["", "E", "a b", "abcdefghijklm"]:
            self.refuses(library, ("BadName", {"name": name}), library.keep, name, *bad)
        self.refuses(library, ("NameTaken", {"name": "e"}), library.keep, "e", *bad)
        self.refuses(library, ("NameTaken", {"name": "e"}), library.keep, "e", *good)
        for derivation, path, reason in [
            ("take own #0", (0,), "goal"), ("own x", (), "hold"), ("cite e", (), "goal"), ("cite f", (), "entry"),
            ("cite g", (), "entry"), ("take cite g", (0,), "entry"), ("take cut once (b) own x own #1", (0, 0), "hold"),
        ]:
            self.refuses(library, ("DerivationError", {"path": path, "reason": reason}),
                         library.keep, "f", parse_sentence("a > b"), parse_derivation(derivation))

    def test_entries_that_cite_entries(self):
        library = Library()
        library.keep("e", parse_sentence("a > a"), parse_derivation("take own #0"))
        library.keep("f", parse_sentence("a > a"), parse_derivation("cut once (a > a) cite e own #0"))
        library.keep("g", parse_sentence("a > a"), parse_derivation("cite f"))
        self.refuses(library, ("InUse", {"name": "e"}), library.forget, "e")
        self.refuses(library, ("InUse", {"name": "f"}), library.forget, "f")
        self.refuses(library, ("UnknownName", {"name": "h"}), library.forget, "h")
        library.forget("g")
        library.forget("f")
        self.refuses(library, ("UnknownName", {"name": "f"}), library.forget, "f")
        library.forget("e")
        self.assertEqual(contents(library), ([], {}, [], {}, [], True, 6, 0))


class TwinTest(LibraryTest):
    def library(self):
        library = Library()
        library.define("w", makes=sentences("a & b", "c"), opens=sentences("a", "c"))
        library.define("v", makes=sentences("w [9/0] > a"), opens=sentences("w [9/0] > b"), limit=0)
        library.keep("e", parse_sentence("a > a"), parse_derivation("take own #0"))
        library.keep("f", parse_sentence("w > w"), parse_derivation("take own #0"))
        library.forget("f")
        return library

    def test_the_same_contents(self):
        library = self.library()
        twin = library.twin()
        self.assertIs(type(twin), Library)
        self.assertEqual(contents(twin), contents(library))
        self.assertEqual(twin.changes, 5)
        boxes = boxes_in(contents(library)) + boxes_in(contents(twin))
        self.assertEqual(len(boxes), len({id(box) for box in boxes}))

    def test_they_go_their_own_ways(self):
        library = self.library()
        twin, other = library.twin(), library.twin()
        before = contents(library)
        twin.define("u", makes=[A], opens=[B])
        twin.forget("e")
        twin.undefine("v")
        self.assertEqual(contents(library), before)
        self.assertEqual(contents(other), before)
        after = contents(twin)
        library.undefine("v")
        library.undefine("w")
        library.keep("z", parse_sentence("a > a"), parse_derivation("cite e"))
        self.assertEqual(contents(twin), after)
        self.assertEqual(contents(other), before)
        self.assertEqual((twin.changes, library.changes, other.changes), (8, 8, 5))


def plain_unfolded(library, derivation):
    """Point 79, a row at a time."""
    while True:
        cited = [path for path, name in walk(derivation) if name == "cite"]
        if not cited:
            return derivation
        name = part(derivation, cited[0])[1]
        level = level_at(derivation, cited[0])
        derivation = with_part(derivation, cited[0], moved(library.entry(name)[1], 0, level, {}))


class UnfoldedTest(unittest.TestCase):
    def test_entries_that_cite_entries(self):
        library = Library()
        library.keep("e", parse_sentence("a > a"), parse_derivation("take own #0"))
        library.keep("f", parse_sentence("b [1/0] > a > a"), parse_derivation("take cut once (a > a) cite e own #1"))
        for text, expected in [
            ("own x", "own x"), ("cite e", "take own #0"), ("take take cite e", "take take take own #2"),
            ("cite f", "take cut once (a > a) take own #1 own #1"),
            ("take cite f", "take take cut once (a > a) take own #2 own #2"),
            ("offer cite e pick x left cite e", "offer take own #0 pick x left take own #1"),
            ("pay x once cite e pay y once cite e cite e",
             "pay x once take own #0 pay y once take own #1 take own #2"),
            ("cut once (a) cite e own #0", "cut once (a) take own #0 own #0"),
        ]:
            self.assertEqual(unfolded(library, parse_derivation(text)), parse_derivation(expected))

    def test_unknown_names(self):
        library = Library()
        library.keep("e", parse_sentence("a > a"), parse_derivation("take own #0"))
        for text, name in [("cite f", "f"), ("offer cite e cite g", "g"), ("offer cite g cite f", "g"),
                           ("pay x once take cite h cite g", "h")]:
            self.assertEqual(error_of(unfolded, library, parse_derivation(text)), ("UnknownName", {"name": name}))

    def test_the_result_shows_the_claim(self):
        source = random.Random(79)
        cites = 0
        for _ in range(150):
            library = draw_full_library(source)
            claim, derivation = draw_derivation(source, library, 4)
            found = unfolded(library, derivation)
            cites += len([name for path, name in walk(derivation) if name == "cite"])
            self.assertEqual(found, plain_unfolded(library, derivation))
            self.assertTrue(accepts(library, claim, found))
            self.assertTrue(accepts(Library(), claim, found) or len(library))
        self.assertGreater(cites, 30)

    def test_a_chain_of_deep_entries(self):
        library = Library()
        sentence, name = parse_sentence("a > a"), None
        for at in range(12):
            row = ("cite", name) if name else parse_derivation("take own #55")
            for level in reversed(range(55)):
                row = ("cut", (1, 0), sentence, ("take", ("own", level)), row)
            library.keep("e" + str(at), sentence, row)
            name = "e" + str(at)
        found = unfolded(library, ("cite", name))
        self.assertEqual(len([name for path, name in walk(found) if name == "cut"]), 12 * 55)


class ReadersTest(unittest.TestCase):
    def test_claims_of_meetings(self):
        library = Library()
        library.define("w", makes=sentences("a > b"), opens=sentences("a > b"))
        claim = parse_claim("from: a > b |- a > b")
        self.assertTrue(accepts(library, claim, library.meeting("w", 0, 0)))


if __name__ == "__main__":
    unittest.main()
