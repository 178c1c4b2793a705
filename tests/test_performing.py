"""Points 59 to 61: derivations as programs."""

import copy
import random
import unittest

from drawing import draw_bare, draw_derivation, draw_full_library, draw_library
from helper import error_of, holds_no_list
from heldproofs.checking import accepts
from heldproofs.claimtext import parse_claim
from heldproofs.families import copying_family, doubling_family, passing_family
from heldproofs.library import Library
from heldproofs.performing import perform, read_back
from heldproofs.readings import read_bare
from heldproofs.rows import is_bare
from heldproofs.rowtext import parse_derivation
from heldproofs.running import finish, run
from heldproofs.sentencetext import parse_sentence
from heldproofs.stepping import do_step, steps
from heldproofs.tallies import greatest_play, tally
from plainreading import generic, plain_reading, shown, value_of_reading


def library_of_words():
    """The word w has meetings for open 0 alone; v can only be opened, u only be made; e shows a > a & a."""
    library = Library()
    library.define("w", makes=[parse_sentence("a & b"), parse_sentence("a")],
                   opens=[parse_sentence("a"), parse_sentence("c")])
    library.define("v", opens=[parse_sentence("a"), parse_sentence("a > b")])
    library.define("u", makes=[parse_sentence("a"), parse_sentence("b & c")])
    library.keep("e", parse_sentence("a > a & a"), parse_derivation("take offer own #0 own #0"))
    library.keep("f", parse_sentence("a > a"),
                 parse_derivation("cut once (a > a & a) cite e take pay #0 once own #1 pick #2 left own #3"))
    return library


class Doubler:
    """Something of the caller that can be called."""

    def __call__(self, value):
        return value * 2


class PerformTest(unittest.TestCase):
    def setUp(self):
        self.library = library_of_words()

    def value(self, text, **things):
        return perform(self.library, parse_derivation(text), things)

    def test_example_of_the_interface(self):
        library = Library()
        library.define("w", makes=[parse_sentence("a & b")], opens=[parse_sentence("a"), parse_sentence("c")])
        derivation = parse_derivation("cut once (w) make w 0 own x open #0 w 0 own #1")
        self.assertEqual(perform(library, derivation, {"x": (7, 8)}), 7)

    def test_own(self):
        for thing in [7, "text", None, [1], {}, ("made", "w", 0, 1), (1, 2), len]:
            self.assertIs(self.value("own x", x=thing), thing)

    def test_take(self):
        self.assertEqual(self.value("take own #0")(3), 3)
        self.assertEqual(self.value("take own x", x=4)(3), 4)
        self.assertEqual(self.value("take take offer own #0 own #1")(3)(4), (3, 4))
        inner = self.value("take take offer own #0 offer own #1 own x", x=5)(3)
        self.assertEqual([inner(4), inner(6), inner(4)], [(3, (4, 5)), (3, (6, 5)), (3, (4, 5))])

    def test_offer_and_pick(self):
        found = self.value("offer own x own y", x=1, y=2)
        self.assertEqual(found, (1, 2))
        self.assertIs(type(found), tuple)
        self.assertEqual(self.value("pick x left own #0", x=(1, 2)), 1)
        self.assertEqual(self.value("pick x right own #0", x=(1, 2)), 2)
        self.assertEqual(self.value("pick x right pick #0 left own #1", x=(1, (2, 3))), 2)
        self.assertEqual(self.value("pick x left offer own #0 own x", x=(1, 2)), (1, (1, 2)))

    def test_pay(self):
        self.assertEqual(self.value("pay f once own s own #0", f=lambda value: value + 1, s=6), 7)
        self.assertEqual(self.value("pay f [2/1] own s own #0", f=Doubler(), s=6), 12)
        self.assertEqual(self.value("pay f once own s pay #0 once own t own #1",
                                    f=lambda first: lambda second: (first, second), s=1, t=2), (1, 2))
        self.assertEqual(self.value("pay f once take offer own #0 own s own #0",
                                    f=lambda given: [given(1), given(2)], s=9), [(1, 9), (2, 9)])
        self.assertEqual(self.value("pay f once own s own #0", f=len, s="four"), 4)

    def test_make(self):
        found = self.value("make w 1 own x", x=3)
        self.assertEqual(found, ("made", "w", 1, 3))
        self.assertIs(type(found), tuple)
        self.assertEqual(self.value("make w 0 offer own x own y", x=3, y=4), ("made", "w", 0, (3, 4)))
        self.assertEqual(self.value("make u 1 own x", x=(3, 4)), ("made", "u", 1, (3, 4)))
        self.assertEqual(self.value("make u 0 make w 1 own x", x=3), ("made", "u", 0, ("made", "w", 1, 3)))
        self.assertEqual(self.value("take make w 1 own #0")(5), ("made", "w", 1, 5))

    def test_open_of_what_was_made(self):
        self.assertEqual(self.value("open x w 0 own #0", x=("made", "w", 0, (7, 8))), 7)
        self.assertEqual(self.value("open x w 0 own #0", x=("made", "w", 1, 9)), 9)
        self.assertEqual(self.value("cut once (w) make w 1 own x open #0 w 0 own #1", x=5), 5)
        self.assertEqual(self.value("offer open x w 0 own #0 open x w 0 own #0", x=("made", "w", 1, 9)), (9, 9))

    def test_open_of_a_function(self):
        calls = []

        def word_of_caller(index):
            calls.append(index)
            return ["zero", "one", "two"][index]

        self.assertEqual(self.value("open x w 1 own #0", x=word_of_caller), "one")
        self.assertEqual(self.value("open x w 0 own #0", x=word_of_caller), "zero")
        self.assertEqual(set(calls), {0, 1})
        opened = self.value("open x v 1 own #0", x=lambda index: [5, lambda value: value + 1][index])
        self.assertEqual(opened(3), 4)
        self.assertEqual(self.value("open x v 1 pay #0 once own s own #1", s=3, x=lambda index: Doubler()), 6)

    def test_a_meeting_that_opens_words(self):
        self.library.define("m", makes=[parse_sentence("w"), parse_sentence("v & b")], opens=[parse_sentence("a")])
        text = "open x m 0 own #0"
        self.assertEqual(self.value(text, x=("made", "m", 0, ("made", "w", 0, (7, 8)))), 7)
        self.assertEqual(self.value(text, x=("made", "m", 0, lambda index: "w" + str(index))), "w0")
        self.assertEqual(self.value(text, x=("made", "m", 1, (lambda index: "v" + str(index), 3))), "v0")

    def test_cut(self):
        self.assertEqual(self.value("cut once (a) own x own #0", x=1), 1)
        self.assertEqual(self.value("cut [2/0] (a & b) offer own x own y offer pick #0 right own #1 pick #0 left own #1",
                                    x=1, y=2), (2, 1))
        self.assertEqual(self.value("cut once (a > a) take own #0 pay #0 once own x own #1", x=1), 1)
        self.assertEqual(self.value("take cut once (a) own #0 take offer own #1 own #2")(1)(2), (1, 2))
        self.assertEqual(self.value("cut [2/0] (a) own s own x", s=1, x=2), 2)

    def test_cite(self):
        self.assertEqual(self.value("cite e")(3), (3, 3))
        self.assertEqual(self.value("cite f")(3), 3)
        self.assertEqual(self.value("take take cut once (a > a) cite f pay #2 once own #0 offer own #3 own #1")(3)(4), (3, 4))

    def test_the_holds_of_an_entry_are_its_own(self):
        # The entry's levels are not those of the place where it is cited.
        self.assertEqual(self.value("take pick #0 left pay #1 once own x cite f", x=1)((lambda value: 7, 2))(5), 5)

    def test_no_meeting(self):
        text = "open x w 1 own #0"
        for made in (0, 1):
            expected = ("NoMeeting", {"name": "w", "make_index": made, "open_index": 1})
            self.assertEqual(error_of(self.value, text, x=("made", "w", made, (7, 8))), expected)
            derivation = f"cut once (w) make w {made} own x open #0 w 1 own #1"
            self.assertEqual(error_of(self.value, derivation, x=3), expected)
            self.assertEqual(error_of(self.value, f"offer own x pick y left {derivation.replace('#1', '#2').replace('#0', '#1')}",
                                      x=3, y=(1, 2)), expected)

    def test_no_meeting_when_a_function_is_called(self):
        expected = ("NoMeeting", {"name": "w", "make_index": 0, "open_index": 1})
        function = self.value("take cut once (w) make w 0 own #0 open #1 w 1 own #2")
        self.assertEqual(error_of(function, (7, 8)), expected)
        self.assertEqual(error_of(function, (7, 8)), expected)
        function = self.value("take open #0 w 1 own #1")
        self.assertEqual(function(lambda index: index * 10), 10)
        self.assertEqual(error_of(function, ("made", "w", 0, (1, 2))), expected)
        pair = self.value("offer own x take open #0 w 1 own #1", x=1)
        self.assertEqual(error_of(pair[1], ("made", "w", 0, (1, 2))), expected)
        made = self.value("make w 1 take open #0 w 1 own #1")
        self.assertEqual(error_of(made[3], ("made", "w", 0, (1, 2))), expected)

    def test_things_change_behind_the_call(self):
        things = {"x": 1, "y": 2}
        derivation = parse_derivation("take offer own x offer own y own #0")
        function = perform(self.library, derivation, things)
        things["x"] = 5
        del things["y"]
        self.assertEqual(function(3), (1, (2, 3)))
        things.clear()
        self.assertEqual(function(4), (1, (2, 4)))
        inner = perform(self.library, parse_derivation("take take offer own x own #1"), {"x": 1})(0)
        self.assertEqual(inner(2), (1, 2))

    def test_things_stay_as_they_are(self):
        things = {"x": (1, 2), "f": Doubler(), "s": 4, "spare": 9, "0": 1}
        before = copy.copy(things)
        self.assertEqual(perform(self.library, parse_derivation("pick x left take pay f once own s own #2"), things)(1), 8)
        self.assertEqual(things, before)

    def test_calls_do_not_disturb_one_another(self):
        function = self.value("take cut once (a) own #0 take pick x left offer own #1 offer own #2 own #3", x=(8, 9))
        first, second = function(1), function(2)
        self.assertEqual([first(3), second(4), first(5), second(3)],
                         [(1, (3, 8)), (2, (4, 8)), (1, (5, 8)), (2, (3, 8))])

    def test_deep(self):
        derivation, value = parse_derivation("own x"), 7
        for _ in range(150):
            derivation = ("cut", "once", ("word", "a"), derivation, ("own", 0))
        self.assertEqual(perform(self.library, derivation, {"x": 7}), 7)
        derivation = parse_derivation("own x")
        for _ in range(150):
            derivation, value = ("pay", "f", "once", derivation, ("own", 0)), value + 1
        self.assertEqual(perform(self.library, derivation, {"x": 7, "f": lambda given: given + 1}), value)
        derivation = parse_derivation("own x")
        for _ in range(150):
            derivation = ("take", derivation)
        found = perform(self.library, derivation, {"x": 7})
        for _ in range(150):
            found = found(0)
        self.assertEqual(found, 7)
        derivation = parse_derivation("own #149")
        for level in reversed(range(150)):
            derivation = ("pick", "x" if level == 0 else level - 1, "right", derivation)
        value = 7
        for at in range(150):
            value = (at, value)
        self.assertEqual(perform(self.library, derivation, {"x": value}), 7)

    def test_families(self):
        claim, derivation = passing_family(50, 50)
        held = 3
        for _ in range(50):
            held = (held, 0)
        found = perform(Library(), derivation, {"x": held})
        for _ in range(50):
            found = found(1)
        self.assertEqual(found, 3)
        claim, derivation = copying_family(1, 50)
        self.assertEqual(perform(Library(), derivation, {"x": lambda value: value + 1})(0), 50)
        claim, derivation = copying_family(5, 2)
        self.assertEqual(perform(Library(), derivation, {"x": lambda value: value + 1})(0), 32)
        claim, derivation = doubling_family(3)
        self.assertEqual(perform(Library(), derivation, {"x": 1}), (((1, 1), (1, 1)), ((1, 1), (1, 1))))


class ValueTest(unittest.TestCase):
    def values(self, library, claim, derivation):
        things = {name: generic(library, sentence, name) for name, kind, sentence in claim[0]}
        return shown(library, claim[1], perform(library, derivation, things))

    def test_steps_keep_the_value(self):
        # Point 60, last sentence.
        source = random.Random(60)
        stepped = 0
        for _ in range(200):
            library = draw_full_library(source)
            claim, derivation = draw_derivation(source, library, source.choice([2, 3, 4]))
            first = tally(library, derivation)
            if not library.is_whole or first.load > 300 or first.rows > 1000 or greatest_play(library, derivation) > 150:
                continue
            expected = self.values(library, claim, derivation)
            here = derivation
            for _ in range(12):
                found = steps(library, here)
                if found:
                    here = do_step(library, here, source.choice(found))
                    self.assertEqual(self.values(library, claim, here), expected)
                    stepped += 1
            ended = finish(library, derivation)
            self.assertEqual(self.values(library, claim, ended), expected)
            things = {name: generic(library, sentence, name) for name, kind, sentence in claim[0]}
            self.assertEqual(shown(library, claim[1], value_of_reading(plain_reading(ended), things)), expected)
        self.assertGreater(stepped, 300)

    def test_bare_derivations(self):
        source = random.Random(59)
        for _ in range(100):
            library, claim, derivation = draw_bare(source, source.choice([3, 4, 5]))
            things = {name: generic(library, sentence, name) for name, kind, sentence in claim[0]}
            expected = shown(library, claim[1], value_of_reading(plain_reading(derivation), things))
            self.assertEqual(self.values(library, claim, derivation), expected)


class ReadBackTest(unittest.TestCase):
    def setUp(self):
        self.library = library_of_words()

    def check(self, claim, text, bare):
        derivation = parse_derivation(text)
        self.assertTrue(accepts(self.library, parse_claim(claim), derivation), text)
        found = read_back(self.library, derivation)
        self.assertEqual(found, read_bare(parse_derivation(bare)), text)
        self.assertTrue(holds_no_list(found))
        ended = finish(self.library, derivation)
        if is_bare(ended):
            self.assertEqual(found, read_bare(ended))

    def test_bare_derivations(self):
        for claim, text in [
            ("x: a |- a", "own x"), ("|- a > a", "take own #0"), ("x: a |- a & a", "offer own x own x"),
            ("x: a & b |- b", "pick x right own #0"), ("f: a > b, s: a |- b", "pay f once own s own #0"),
            ("x: a |- w", "make w 1 own x"), ("x: w |- a", "open x w 0 own #0"), ("x: w |- c", "open x w 1 own #0"),
            ("f: a > b |- a > b", "own f"), ("x: a & b |- a & b", "own x"), ("x: w |- w", "own x"),
            ("x: a & b |- c [1/0] > b", "pick x right take own #0"),
            ("f [2/0]: a [2/1] > b, s [2/1]: a |- b", "pay f [2/1] own s own #0"),
        ]:
            self.check(claim, text, text)

    def test_cuts_of_both_kinds(self):
        self.check("x: a |- a", "cut once (a) own x own #0", "own x")
        self.check("x [2/0]: a |- a & a", "cut [1/0] (a) own x offer own #0 own #0", "offer own x own x")
        self.check("x [1/0]: a, y: b |- b", "cut [1/0] (a) own x own y", "own y")
        self.check("x: a |- a", "cut once (a > a) take own #0 pay #0 once own x own #1", "own x")
        self.check("x: a & b |- b", "cut once (b) pick x right own #0 own #0", "pick x right own #0")
        self.check("x [2/0]: a & b, f: a > a > c |- c",
                   "cut [2/0] (a) pick x left own #0 pay f once own #0 pay #1 once own #0 own #2",
                   "pay f once pick x left own #0 pay #0 once pick x left own #1 own #1")
        self.check("x: a |- a & a", "cut once (a & a) offer own x own x own #0", "offer own x own x")
        self.check("x: a |- a", "cut once (a & a) offer own x own x pick #0 right own #1", "own x")
        self.check("f: a > b |- a > b", "cut once (a > b) own f own #0", "own f")
        self.check("f: a > b |- a > b", "cut once (a > b) take pay f once own #0 own #1 own #0",
                   "take pay f once own #0 own #1")

    def test_functions_within_what_is_paid(self):
        self.check("f: (a > b) > c, g: a > b |- c",
                   "cut once (a > b) take pay g once own #0 own #1 pay f once own #0 own #1",
                   "pay f once take pay g once own #0 own #1 own #0")
        self.check("f: (a > a) > b |- c [1/0] > b", "cut once (b) pay f once take own #0 own #0 take own #0",
                   "take pay f once take own #1 own #1")

    def test_defined_words(self):
        self.check("x: a & b |- a", "cut once (w) make w 0 own x open #0 w 0 own #1", "pick x left own #0")
        self.check("x: a |- a", "cut once (w) make w 1 own x open #0 w 0 own #1", "own x")
        self.check("x: w |- a", "cut once (w) own x open #0 w 0 own #1", "open x w 0 own #0")
        self.check("x: a |- w", "cut once (w) make w 1 own x own #0", "make w 1 own x")
        self.check("x: v, s: a |- b", "open x v 1 pay #0 once own s own #1", "open x v 1 pay #0 once own s own #1")
        self.check("x: b & c |- u", "cut once (u) make u 1 own x own #0", "make u 1 own x")

    def test_entries(self):
        self.check("|- a > a & a", "cite e", "take offer own #0 own #0")
        self.check("|- a > a", "cite f", "take own #0")
        self.check("x: a |- a", "cut once (a > a) cite f pay #0 once own x own #1", "own x")

    def test_no_meeting(self):
        for text, make in [
            ("cut once (w) make w 0 own x open #0 w 1 own #1", 0),
            ("cut once (w) make w 1 own x open #0 w 1 own #1", 1),
            ("take cut once (w) make w 1 own #0 open #1 w 1 own #2", 1),
            ("offer own x cut once (w) make w 0 own x open #0 w 1 own #1", 0),
            ("pay f once cut once (w) make w 0 own x open #0 w 1 own #1 own #0", 0),
            ("pay f once take cut once (w) make w 0 own #0 open #1 w 1 own #2 own #0", 0),
            ("make u 1 offer own x cut once (w) make w 0 own x open #0 w 1 own #1", 0),
        ]:
            self.assertEqual(error_of(read_back, self.library, parse_derivation(text)),
                             ("NoMeeting", {"name": "w", "make_index": make, "open_index": 1}))

    def test_values_that_are_not_needed(self):
        # Runs drop these cuts, or the side of an offer with one; no meeting is missed then.
        stuck = "cut once (w) make w 0 own s open #{0} w 1 own #{1}"
        for text, bare in [
            ("cut [1/0] (c) " + stuck.format(0, 1) + " own y", "own y"),
            ("cut once (b & c) offer own y " + stuck.format(0, 1) + " pick #0 left own #1", "own y"),
            ("cut once (c [1/0] > a) take own y pay #0 [1/0] " + stuck.format(1, 2) + " own #1", "own y"),
            ("take cut [2/0] (c) " + stuck.format(1, 2) + " own #0", "take own #0"),
        ]:
            derivation = parse_derivation(text)
            self.assertEqual(read_back(self.library, derivation), read_bare(parse_derivation(bare)), text)
            self.assertEqual(read_back(self.library, derivation), read_bare(finish(self.library, derivation)), text)

    def test_drawn_with_gaps(self):
        source = random.Random(63)
        seen = {True: 0, False: 0}
        while min(seen.values()) < 25:
            library = draw_library(source, limit=0)
            claim, derivation = draw_derivation(source, library, source.choice([4, 5]))
            first = tally(library, derivation)
            if library.is_whole or first.load > 300 or first.rows > 500 or "'open'" not in str(derivation):
                continue
            ended = finish(library, derivation)
            seen[is_bare(ended)] += 1
            if is_bare(ended):
                self.assertEqual(read_back(library, derivation), read_bare(ended))
            else:
                self.assertEqual(error_of(read_back, library, derivation)[0], "NoMeeting")

    def test_drawn(self):
        source = random.Random(61)
        changed = 0
        kinds = {"once": 0, "stock": 0, "make": 0, "open": 0, "cite": 0, "offer": 0}
        for _ in range(300):
            library = draw_full_library(source)
            claim, derivation = draw_derivation(source, library, source.choice([2, 3, 4, 5]))
            first = tally(library, derivation)
            if first.load > 500 or first.rows > 2000 or greatest_play(library, derivation) > 150:
                continue
            ended = run(library, derivation, [source.randrange(7) for _ in range(4)])[0]
            if not is_bare(ended):
                # Only a library that is not whole leaves cuts; then some value is opened without a meeting.
                self.assertFalse(library.is_whole)
                self.assertEqual(error_of(read_back, library, derivation)[0], "NoMeeting")
                continue
            self.assertEqual(read_back(library, derivation), read_bare(ended))
            changed += ended != derivation
            for name in kinds:
                kinds[name] += name in str(derivation)
            kinds["stock"] += "'cut', (" in str(derivation)
        self.assertGreater(changed, 100)
        self.assertGreater(min(kinds.values()), 10, kinds)

    def test_drawn_bare(self):
        source = random.Random(62)
        for _ in range(100):
            library, claim, derivation = draw_bare(source, source.choice([3, 4, 5]))
            self.assertEqual(read_back(library, derivation), read_bare(derivation))

    def test_deep(self):
        for claim, derivation in [passing_family(50, 50), copying_family(1, 50), copying_family(5, 2),
                                  doubling_family(6)]:
            self.assertEqual(read_back(Library(), derivation), read_bare(finish(Library(), derivation)))


if __name__ == "__main__":
    unittest.main()
