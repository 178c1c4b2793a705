"""Point 2, and promises that join several modules, over the whole program."""

import copy
import random
import unittest

from drawing import draw_bare, draw_derivation, draw_full_library
from helper import boxes_in, error_of
from heldproofs import (
    checking, claims, claimtext, counts, desk, ends, errors, exchanging, families, inverting, kinds, library, linking,
    mending, moving, performing, playing, ranks, readings, refuting, rows, rowtext, running, searching, sentences,
    sentencetext, stepping, tallies, worldbuilding, worlds)
from plainreading import generic, shown
from test_interface import FUNCTIONS

S, C, D = sentencetext.parse_sentence, claimtext.parse_claim, rowtext.parse_derivation


def made_library():
    made = library.Library()
    made.define("w", makes=[S("a & b"), S("b")], opens=[S("a"), S("c")])
    made.define("v", makes=[S("a")], opens=[S("a")])
    made.keep("e", S("a > a"), D("take own #0"))
    made.keep("k", S("a > a"), D("take cut once (v) make v 0 own #0 open #1 v 0 own #2"))
    return made


def sight(thing):
    """A value in which two looks at the same thing are equal; functions are left out."""
    if isinstance(thing, library.Library):
        words = [(name, thing.makes_of(name), thing.opens_of(name)) for name in thing]
        entries = [(name, thing.entry(name)) for name in thing.entry_names()]
        return words, entries, thing.gaps(), thing.changes
    if isinstance(thing, dict):
        return {key: sight(value) for key, value in thing.items()}
    if isinstance(thing, (list, tuple)):
        return [type(thing).__name__] + [sight(item) for item in thing]
    if isinstance(thing, (int, str, type(None))):
        return thing
    return {key: sight(value) for key, value in vars(thing).items()} if hasattr(thing, "__dict__") else "other"


def lists_of(thing):
    """The lists and dictionaries of a result, also those that are attributes of an object of the interface."""
    if isinstance(thing, (searching.Answer, tallies.Tally, counts.Count)):
        return boxes_in(list(vars(thing).values()))[:-1]
    if isinstance(thing, (list, tuple, dict)):
        return boxes_in(thing)
    return []


BARE, CUT, TRADE = D("pick x left pick y left pay f once own #0 pay #2 once own #1 own #3"), D(
    "cut [2/1] (a) own x pay f [2/1] own #0 own #1"), C("f: a > b, x: a |- b")
MENU = C("x: a & b, s [2/0]: a |- a & a")

# For each function of the interface, arguments for it.
CALLS = {
    "is_kind": [((1, 0),), ([1, 0],)], "nested": [((2, 1), (3, 0))], "pooled": [((2, 1), (3, 0))],
    "covers": [((2, 1), "once")],
    "word": [("a",)], "menu": [(S("a"), S("b"))], "trade": [(S("a"), S("b"))], "size": [(S("a & b"),)],
    "words_in": [(S("a & b"),)], "legs": [(S("a > b & (c [2/0] > d)"),)],
    "format_sentence": [(S("a & b"),)], "parse_sentence": [("a & b",)],
    "make_claim": [([("x", "once", S("a"))], S("b"))], "hold_of": [(TRADE, "f")],
    "with_hold": [(TRADE, "z", (2, 0), S("a"))], "without_hold": [(TRADE, "f")], "bare_claim": [(TRADE,)],
    "format_claim": [(TRADE,)], "parse_claim": [("x: a |- b",)],
    "premises": [(BARE,)], "part": [(BARE, (0,))], "with_part": [(BARE, (0, 0), ("own", 0))], "level_at": [(BARE, (0,))],
    "row_count": [(BARE,)], "walk": [(BARE,)], "cut_paths": [(CUT,)], "is_bare": [(BARE,)],
    "format_derivation": [(BARE,)], "parse_derivation": [("own x",)],
    "moved": [(BARE, 0, 2, {"x": 1})], "free_refs": [(BARE, 0)], "counts": [(BARE,)],
    "check": [("library", TRADE, D("pay f once own x own #0"))],
    "accepts": [("library", TRADE, D("pay f once own x own #0"))],
    "claim_at": [("library", TRADE, D("pay f once own x own #0"), (1,))],
    "with_room": [(MENU, "s", (3, 0))], "pooled_holds": [(C("s [2/0]: a, t [1/1]: a |- a"), D("own s"), "s", "t")],
    "least_kinds": [(MENU, D("offer own s own s"))], "abstracted": [(TRADE, D("pay f once own x own #0"), "x")],
    "invert_take": [(C("|- a > a"), D("take own #0"), "x")], "invert_offer": [(MENU, D("offer own s own s"), "left")],
    "expanded": [("library", C("x: a > b |- a > b"), D("own x"))],
    "steps": [("library", CUT)], "step_name": [("library", CUT, ((), "left"))], "do_step": [("library", CUT, ((), "left"))],
    "run": [("library", CUT, [1, 0])], "finish": [("library", CUT)], "rank": [("library", S("w"))], "loss": [(S("a > b"),)],
    "tally": [("library", CUT)], "greatest_play": [("library", CUT)], "plays": [("library", CUT), ("library", D("cite k"))],
    "passing_family": [(1, 2)], "doubling_family": [(2,)], "copying_family": [(2, 2)],
    "read_bare": [(BARE,)], "settled_from": [(readings.read_bare(BARE),)], "alike": [(BARE, BARE)],
    "exchange_paths": [(BARE,)], "exchange": [(BARE, ())], "settling": [(BARE,)], "settle": [(BARE,)],
    "chain": [(BARE, BARE)],
    "perform": [("library", D("offer own x take own #0"), {"x": 3, "y": [1]})], "read_back": [("library", CUT)],
    "ways": [("library", S("w > a & b"))], "ends": [("library", [((2, 0), S("a > a"))], S("a"))],
    "search": [("library", TRADE), ("library", C("x: a |- b & c"))],
    "refutes": [("library", [((("once", S("a")),), S("c"))], C("x: a |- c"))], "span": [(S("a > b"), "a")],
    "doubts": [(C("x: a |- b"),)], "build_world": [(C("x: a |- b"),)],
    "vocabulary": [("library", S("w"))], "is_plain": [("library", TRADE)],
    "links": [("library", TRADE, D("pay f once own x own #0"), ["f"])],
    "join_links": [([("l", "once", S("a"), ("own", "s"))], D("pay f once own l own #0"))],
    "unfolded": [("library", D("cite k"))],
    "replay": [("library", MENU, [("pick", 0, "x", "left", "y")])],
}

MODULES = {
    "kinds": kinds, "sentences": sentences, "sentencetext": sentencetext, "claims": claims, "claimtext": claimtext,
    "rows": rows, "rowtext": rowtext, "moving": moving, "counts": counts, "checking": checking, "mending": mending,
    "ends": ends, "searching": searching, "library": library, "inverting": inverting, "stepping": stepping,
    "running": running, "ranks": ranks, "tallies": tallies, "playing": playing, "families": families,
    "readings": readings, "exchanging": exchanging, "performing": performing, "refuting": refuting,
    "worldbuilding": worldbuilding, "linking": linking, "desk": desk}


def all_calls():
    """Each function of the interface with arguments: its name, the function and a list of them."""
    for file, lines in FUNCTIONS.items():
        for line in lines:
            name = line.partition("(")[0]
            for told in CALLS[name]:
                yield name, getattr(MODULES[file], name), told


class ConventionsTest(unittest.TestCase):
    def test_arguments_stay_as_they_are(self):
        for name, function, told in all_calls():
            kept = made_library()
            arguments = [kept if item == "library" else copy.deepcopy(item) for item in told]
            before = [sight(item) for item in arguments]
            result = function(*arguments)
            if name == "walk":
                list(result)
            self.assertEqual([sight(item) for item in arguments], before, name)

    def test_what_is_told_is_new(self):
        for name, function, told in all_calls():
            kept = made_library()
            arguments = [kept if item == "library" else copy.deepcopy(item) for item in told]
            results = [function(*arguments) for _ in range(2)]
            if name == "walk":
                results = [list(result) for result in results]
            boxes = [box for result in results for box in lists_of(result)]
            if name == "perform":
                continue
            self.assertEqual(len({id(box) for box in boxes}), len(boxes), name)
            passed = {id(box) for item in arguments if isinstance(item, (list, dict, tuple)) for box in boxes_in(item)}
            self.assertFalse(passed & {id(box) for box in boxes}, name)
            second = sight(results[1])
            for box in lists_of(results[0]):
                box.clear()
            self.assertEqual(sight(results[1]), second, name)
            again = function(*arguments)
            self.assertEqual(sight(list(again) if name == "walk" else again), second, name)

    def test_objects_tell_new_lists(self):
        kept = made_library()
        for call in [lambda: kept.makes_of("w"), lambda: kept.opens_of("w"), kept.entry_names, kept.gaps,
                     lambda: [each for gap in kept.gaps() for each in gap[3] or []]]:
            first, second = call(), call()
            self.assertTrue(second)
            expected = copy.deepcopy(second)
            for box in boxes_in(first):
                box.clear()
            self.assertEqual((second, call()), (expected, expected))
        seeker = searching.Searcher(kept)
        told = [seeker.seek(C("x: a |- b & c")) for _ in range(3)]
        expected = list(told[1].table)
        told[0].table.clear()
        self.assertEqual([told[1].table, told[2].table], [expected, expected])
        self.assertEqual(seeker.seek(C("x: a |- b & c")).table, expected)

    def test_methods_that_return_none(self):
        kept = made_library()
        self.assertIsNone(kept.define("u", makes=[S("a")]))
        self.assertIsNone(kept.undefine("u"))
        self.assertIsNone(kept.keep("n", S("a > a"), D("take own #0")))
        self.assertIsNone(kept.forget("n"))
        self.assertIsNone(searching.Searcher(kept).clear())
        at = desk.Desk(kept, TRADE)
        at.cut(0, S("a"), "y")
        self.assertIsNone(at.undo())
        self.assertIsNone(at.redo())

    def test_lists_that_objects_keep(self):
        makes, opens = [S("a")], [S("a")]
        kept = library.Library()
        kept.define("w", makes=makes, opens=opens)
        makes.append(S("b"))
        opens.clear()
        self.assertEqual((kept.makes_of("w"), kept.opens_of("w")), ([S("a")], [S("a")]))
        products, facts = [[0]], {"a": [0]}
        world = worlds.World(products, facts)
        products[0][0] = 9
        facts["a"].clear()
        self.assertEqual((world.product(0, 0), world.has(0, S("a"))), (0, True))

    def test_each_error_is_of_its_class_alone(self):
        kept = made_library()
        at = desk.Desk(kept, TRADE)
        found = set()
        for call, told in [
            (sentences.word, ("X",)), (claims.make_claim, ([("x", "once", S("a"))] * 2, S("a"))),
            (claims.hold_of, (TRADE, "none")), (kept.undefine, ("v",)), (kept.define, ("n", )), (at.own, (0, "f")),
            (mending.with_room, (MENU, "s", (1, 0))), (at.offer, (0,)), (at.pick, (0, "f", "left", "y")),
            (kinds.pooled, ("once", (1, 0))), (sentencetext.parse_sentence, ("&",)), (rows.part, (BARE, (7,))),
            (readings.read_bare, (CUT,)), (checking.check, (kept, TRADE, ("own", "x"))),
            (stepping.do_step, (kept, CUT, ((1,), "left"))),
            (performing.perform, (kept, D("open x w 1 own #0"), {"x": ("made", "w", 0, (1, 2))})),
            (worlds.World, ([], {})), (at.goal, (7,)), (at.built, ()), (ranks.loss, (S("a & b"),)),
            (exchanging.chain, (BARE, ("own", "x"))), (worlds.World([[0]], {}).has, (0, S("a [1/0] > b"))),
            (linking.links, (kept, MENU, ("own", "x"), [])), (at.undo, ()), (at.redo, ()),
        ]:
            try:
                call(*told)
            except errors.HeldError as error:
                self.assertIsInstance(error, ValueError)
                self.assertEqual(type(error).__bases__, (errors.HeldError,))
                found.add(type(error).__name__)
        for call in [lambda: worldbuilding.build_world(TRADE, limit=1), lambda: kept.define("m", makes=[S("m")]),
                     lambda: desk.Desk(kept, C("x: a, y: a |- a")).own(0, "x")]:
            with self.assertRaises(errors.HeldError) as caught:
                call()
            found.add(type(caught.exception).__name__)
        every = {name for name, value in vars(errors).items() if isinstance(value, type)} - {"HeldError"}
        self.assertEqual(every - found, set())

    def test_characters_of_texts(self):
        allowed = {chr(code) for code in range(32, 127)} - {"%"}
        source = random.Random(2)
        for _ in range(60):
            kept = draw_full_library(source)
            claim, derivation = draw_derivation(source, kept, 3)
            for text in [claimtext.format_claim(claim), rowtext.format_derivation(derivation)]:
                self.assertEqual(set(text) - allowed, set())


class JoinedTest(unittest.TestCase):
    """The promises that join several modules, on drawn claims and derivations."""

    def test_with_cuts(self):
        # Points 42, 48, 55, 58, 60, 61 and 76.
        source = random.Random(42)
        bare, stuck = 0, 0
        for _ in range(150):
            kept = draw_full_library(source)
            claim, derivation = draw_derivation(source, kept, source.choice([2, 3, 4]))
            first = tallies.tally(kept, derivation)
            if first.load > 300 or first.rows > 1000 or tallies.greatest_play(kept, derivation) > 150:
                continue
            self.assertEqual(first.load == 0, rows.is_bare(derivation))
            last, taken = running.run(kept, derivation, [source.randrange(9) for _ in range(source.randrange(5))])
            self.assertLessEqual(len(taken), first.load)
            self.check_run(kept, claim, derivation, taken)
            if not rows.is_bare(last):
                self.assertFalse(kept.is_whole)
                stuck += 1
                continue
            self.check_ends(kept, claim, derivation, last)
            bare += 1
        self.assertGreater(bare, 80)

    def check_run(self, kept, claim, derivation, taken):
        here = derivation
        for step in taken:
            after = stepping.do_step(kept, here, step)
            before, behind = tallies.tally(kept, here), tallies.tally(kept, after)
            self.assertLess(behind.load, before.load)
            self.assertTrue(behind.plays <= before.plays and behind.rows <= before.rows)
            self.assertLessEqual(tallies.greatest_play(kept, after), tallies.greatest_play(kept, here))
            checking.check(kept, claim, after)
            here = after

    def check_ends(self, kept, claim, derivation, last):
        ended = running.finish(kept, derivation)
        reading = readings.read_bare(ended)
        self.assertEqual(readings.read_bare(last), reading)
        self.assertEqual(performing.read_back(kept, derivation), reading)
        self.assertEqual(performing.read_back(kept, library.unfolded(kept, derivation)), reading)
        way = exchanging.chain(last, ended)
        for each in way:
            checking.check(kept, claim, each)
        things = {name: generic(kept, sentence, name) for name, kind, sentence in claim[0]}
        values = [shown(kept, claim[1], performing.perform(kept, each, things))
                  for each in [derivation, last, ended, exchanging.settle(last)]]
        self.assertEqual(len(set(values)), 1)
        # The bare form of the claim is shown, so its searches do not refute it, and it has no refutation.
        answer = searching.search(kept, claim, limit=100)
        self.assertNotEqual(answer.outcome, "refuted")
        self.assertFalse(refuting.refutes(kept, [claims.bare_claim(claim)], claim))

    def test_searched_claims(self):
        # Points 65, 67 and 68, with the desk and links.
        source = random.Random(65)
        linked = 0
        for _ in range(120):
            kept, claim, derivation = draw_bare(source, source.choice([2, 3, 4]))
            answer = searching.search(kept, claim, limit=400)
            if answer.outcome != "shown":
                self.assertEqual(answer.outcome, "open")
                continue
            checking.check(kept, claim, answer.derivation)
            self.assertEqual(exchanging.exchange_paths(answer.derivation), [])
            at = desk.Desk(kept, claim)
            self.assertTrue(at.seek(0, limit=400))
            self.assertEqual(at.built(), answer.derivation)
            if linking.is_plain(kept, claim):
                left = [hold[0] for hold in claim[0]][::2]
                joined = linking.join_links(*linking.links(kept, claim, answer.derivation, left))
                checking.check(kept, claim, joined)
                self.assertTrue(readings.alike(running.finish(kept, joined), answer.derivation))
                linked += 1
        self.assertGreater(linked, 15)

    def test_gaps(self):
        # Point 76: what a gap with a table cannot be without its cut.
        source = random.Random(76)
        gaps = 0
        for _ in range(60):
            kept = draw_full_library(source)
            self.assertEqual(kept.is_whole, kept.gaps() == [])
            for name, i, j, table in kept.gaps():
                make, opened = kept.makes_of(name)[i], kept.opens_of(name)[j]
                claim = ((("from", "once", make),), opened)
                derivation = ("cut", "once", ("word", name), ("make", name, i, ("own", "from")),
                              ("open", 0, name, j, ("own", 1)))
                checking.check(kept, claim, derivation)
                self.assertEqual(running.finish(kept, derivation), derivation)
                self.assertEqual(error_of(performing.read_back, kept, derivation)[0], "NoMeeting")
                if table is not None:
                    self.assertTrue(refuting.refutes(kept, table, claim))
                gaps += 1
        self.assertGreater(gaps, 20)


if __name__ == "__main__":
    unittest.main()
