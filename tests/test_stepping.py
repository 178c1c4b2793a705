"""Points 39 and 40: steps."""

import random
import unittest

from drawing import draw_derivation, draw_full_library
from helper import check_new, error_of, holds_no_list
from heldproofs.checking import accepts
from heldproofs.library import Library
from heldproofs.moving import moved
from heldproofs.rows import is_bare, level_at, part, walk, with_part
from heldproofs.rowtext import format_derivation, parse_derivation
from heldproofs.sentencetext import parse_sentence
from heldproofs.stepping import do_step, step_name, steps
from heldproofs.tallies import greatest_play, tally
from plain import plain_step

LEFT, RIGHT, UNFOLD = "left", "right", "unfold"


def library_of_words():
    """The word w has a meeting for its makes 0 and 1 and open 0, none for open 1; the entry e shows a > a."""
    library = Library()
    library.define("w", makes=[parse_sentence("a & b"), parse_sentence("a")],
                   opens=[parse_sentence("a"), parse_sentence("c")])
    library.keep("e", parse_sentence("a > a"), parse_derivation("take own #0"))
    library.keep("f", parse_sentence("a > a"), parse_derivation("cut once (a > a) cite e own #0"))
    return library


class StepTest(unittest.TestCase):
    def setUp(self):
        self.library = library_of_words()

    def has_step(self, before, way, name, after):
        """The step is at the root, at level 0 and above, and it is the only change."""
        before, after = parse_derivation(before), parse_derivation(after)
        self.does((), before, way, name, after)
        for level in (1, 3):
            higher, changed = moved(before, 0, level, {}), moved(after, 0, level, {})
            path = ()
            for each in range(level):
                higher, changed, path = ("take", higher), ("take", changed), path + (0,)
            self.does(path, higher, way, name, changed)
            other = ("own", level - 1)
            for row, index in [(("offer", other), 1), (("pay", "q", "once"), 0), (("cut", "once", ("word", "z")), 0)]:
                whole = row + ((higher,) if len(row) == 2 else (higher, ("own", 0)))
                result = row + ((changed,) if len(row) == 2 else (changed, ("own", 0)))
                self.does((index,) + path, whole, way, name, result)

    def does(self, path, before, way, name, after):
        step = (path, way)
        self.assertIn(step, steps(self.library, before))
        self.assertEqual(step_name(self.library, before, step), name)
        found = do_step(self.library, before, step)
        self.assertEqual(format_derivation(found), format_derivation(after))
        self.assertEqual(found, after)
        self.assertTrue(holds_no_list(found))

    def has_no_step(self, text, *ways):
        derivation = parse_derivation(text)
        for way in ways:
            self.assertNotIn(((), way), steps(self.library, derivation), text)
            for call in (step_name, do_step):
                self.assertEqual(error_of(call, self.library, derivation, ((), way)),
                                 ("NoStep", {"path": (), "way": way}))


class LeftTest(StepTest):
    def test_rename(self):
        for kind in ["once", "[2/1]"]:
            self.has_step(f"cut {kind} (a) own x own #0", LEFT, "rename", "own x")
            self.has_step(f"cut {kind} (a) own x own y", LEFT, "rename", "own y")
            self.has_step(f"cut {kind} (a) own x pay f once own #0 pay #1 once own #0 own #2", LEFT, "rename",
                          "pay f once own x pay #0 once own x own #1")
            self.has_step(f"cut {kind} (a & b) own x pick #0 left cut once (a) own #1 own #2", LEFT, "rename",
                          "pick x left cut once (a) own #0 own #1")
        before = parse_derivation("take take cut once (a) own #0 pay #1 once own #2 own #3")
        self.does((0, 0), before, LEFT, "rename", parse_derivation("take take pay #1 once own #0 own #2"))

    def test_pass_left(self):
        self.has_step("cut once (a) pick x left own #0 own #0", LEFT, "pass left",
                      "pick x left cut once (a) own #0 own #1")
        self.has_step("cut once (a) open x w 0 own #0 pay f once own #0 own #1", LEFT, "pass left",
                      "open x w 0 cut once (a) own #0 pay f once own #1 own #2")
        self.has_step("cut once (a) pay f [2/1] own s own #0 pay g once own #0 own #1", LEFT, "pass left",
                      "pay f [2/1] own s cut once (a) own #0 pay g once own #1 own #2")
        self.has_step("cut once (a) pay f once take own #0 pick #0 left own #1 offer own #0 own #0", LEFT, "pass left",
                      "pay f once take own #0 cut once (a) pick #0 left own #1 offer own #1 own #1")

    def test_no_step_to_the_left(self):
        for source in ["take own #0", "offer own x own x", "make w 1 own x", "cite e", "cut once (b) own x own #0"]:
            for kind in ["once", "[2/1]"]:
                self.has_no_step(f"cut {kind} (a) {source} own #0", LEFT, UNFOLD, "up", "")
        for source in ["pick x left own #0", "open x w 0 own #0", "pay f once own s own #0"]:
            self.has_no_step(f"cut [1/0] (a) {source} own #0", LEFT)


class RightTest(StepTest):
    def test_drop(self):
        self.has_step("cut [1/0] (a) own x own y", RIGHT, "drop", "own y")
        self.has_step("cut [2/1] (a) own x pick y left own #1", RIGHT, "drop", "pick y left own #0")
        self.has_step("cut [2/1] (a > a) take own #0 cite e", RIGHT, "drop", "cite e")
        self.has_step("cut [2/1] (a) own x cut once (b) own y offer own #1 own #1", RIGHT, "drop",
                      "cut once (b) own y offer own #0 own #0")
        before = parse_derivation("take cut [1/0] (a) own #0 pick #0 left own #2")
        self.does((0,), before, RIGHT, "drop", parse_derivation("take pick #0 left own #1"))

    def test_land(self):
        for kind in ["once", "[2/1]"]:
            self.has_step(f"cut {kind} (a) pick x left own #0 own #0", RIGHT, "land", "pick x left own #0")
            self.has_step(f"cut {kind} (a > a) take own #0 own #0", RIGHT, "land", "take own #0")
            self.has_step(f"cut {kind} (a > a) cite e own #0", RIGHT, "land", "cite e")
            self.has_step(f"cut {kind} (a) own x own #0", RIGHT, "land", "own x")

    def test_pass_right_take_pick_open(self):
        # The count in the body: (1, 1, 0) here, so a stock cut goes on as [1/0].
        for kind, pushed in [("once", "once"), ("[3/2]", "[1/0]")]:
            for row in ["take", "pick x left", "open x w 0"]:
                self.has_step(f"cut {kind} (a) pick s left own #0 {row} own #0", RIGHT, "pass right",
                              f"{row} cut {pushed} (a) pick s left own #1 own #1")
                self.has_step(f"cut {kind} (a) take own #0 {row} pay #1 once own #0 own #2", RIGHT, "pass right",
                              f"{row} cut {pushed} (a) take own #1 pay #0 once own #1 own #2")
        before = parse_derivation("take cut once (a) pick #0 left own #1 pick #0 right pay #2 once own #1 own #3")
        self.does((0,), before, RIGHT, "pass right",
                  parse_derivation("take pick #0 right cut once (a) pick #0 left own #2 pay #1 once own #2 own #3"))

    def test_pass_right_make(self):
        for kind, pushed in [("once", "once"), ("[3/2]", "[1/0]")]:
            self.has_step(f"cut {kind} (a) take own #0 make w 1 own #0", RIGHT, "pass right",
                          f"make w 1 cut {pushed} (a) take own #0 own #0")
            self.has_step(f"cut {kind} (a) take own #0 make w 1 pick x left pay #0 once own #1 own #2", RIGHT,
                          "pass right",
                          f"make w 1 cut {pushed} (a) take own #0 pick x left pay #0 once own #1 own #2")

    def test_pass_right_offer(self):
        self.has_step("cut once (a) take own #0 offer own #0 pick #0 left own #1", RIGHT, "pass right",
                      "offer cut once (a) take own #0 own #0 cut once (a) take own #0 pick #0 left own #1")
        self.has_step("cut [5/5] (a) take own #0 offer own #0 pay f once own #0 pay #1 once own #0 own #2", RIGHT,
                      "pass right", "offer cut [1/0] (a) take own #0 own #0 "
                      "cut [2/0] (a) take own #0 pay f once own #0 pay #1 once own #0 own #2")
        self.has_step("cut [5/5] (a) take own #0 offer own x own #0", RIGHT, "pass right",
                      "offer own x cut [1/0] (a) take own #0 own #0")
        self.has_step("cut [5/5] (a) take own #0 offer own #0 pick x left own #1", RIGHT, "pass right",
                      "offer cut [1/0] (a) take own #0 own #0 pick x left own #0")

    def test_pass_right_pay(self):
        for kind, pushed in [("once", "once"), ("[9/9]", "[1/0]")]:
            self.has_step(f"cut {kind} (a) take own #0 pay f once own #0 own #1", RIGHT, "pass right",
                          f"pay f once cut {pushed} (a) take own #0 own #0 own #0")
            self.has_step(f"cut {kind} (a) take own #0 pay f once own s pay #0 once own #1 own #2", RIGHT,
                          "pass right", "pay f once own s "
                          f"cut {pushed} (a) take own #1 pay #1 once own #0 own #2")
        self.has_step("cut [9/9] (a) take own #0 pay f once own #0 pay #0 once own #1 own #2", RIGHT, "pass right",
                      "pay f once cut [1/0] (a) take own #0 own #0 "
                      "cut [1/0] (a) take own #1 pay #1 once own #0 own #2")
        self.has_step("cut once (a) take own #0 pay f once pick s left own #1 own #0", RIGHT, "pass right",
                      "pay f once pick s left own #0 cut once (a) take own #1 own #1")

    def test_the_kind_of_a_pushed_cut(self):
        # In the part alone: before the row that pays it boxes it, but behind the rows that box within it.
        self.has_step("cut [9/9] (a) take own #0 pay f [3/4] own #0 own #1", RIGHT, "pass right",
                      "pay f [3/4] cut [1/0] (a) take own #0 own #0 own #0")
        self.has_step("cut [9/9] (a) take own #0 pay f [3/4] pay g [2/1] own #0 own #1 own #1", RIGHT, "pass right",
                      "pay f [3/4] cut [2/1] (a) take own #0 pay g [2/1] own #0 own #1 own #0")
        self.has_step("cut [9/9] (a) take own #0 take cut [2/3] (b) own #0 pay #2 once own #0 own #3", RIGHT,
                      "pass right",
                      "take cut [3/3] (a) take own #1 cut [2/3] (b) own #1 pay #2 once own #1 own #3")
        self.has_step("cut [9/9] (a) take own #0 take offer own #0 pay #1 once own #0 own #0", RIGHT, "pass right",
                      "take cut [2/0] (a) take own #1 offer own #1 pay #0 once own #1 own #1")

    def test_each_root_that_passes_right(self):
        for row in ["take own #0", "pick x left own #0", "open x w 0 own #0", "make w 1 own #0", "offer own #0 own #0",
                    "pay f once own #0 own #1", "pay f once own s own #0"]:
            for kind in ["once", "[2/1]"]:
                text = f"cut {kind} (a > a) take own #0 {row}"
                self.assertEqual(step_name(self.library, parse_derivation(text), ((), RIGHT)), "pass right")
        for row in ["cut once (a) own #0 own #1", "cut once (a) own s own #0", "cut [2/1] (a) own #0 own s"]:
            for kind in ["once", "[2/1]"]:
                self.has_no_step(f"cut {kind} (a > a) take own #0 {row}", RIGHT)
        # A cite does not use anything; a stock cut of it drops, and one of the kind once is not accepted.
        self.assertEqual(step_name(self.library, parse_derivation("cut [1/0] (a) own x cite e"), ((), RIGHT)), "drop")

    def test_peel_in_neither(self):
        for row, rest in [("pick #0 left", "own #1"), ("open #0 w 0", "own #1"), ("pay #0 once own s", "own #1")]:
            self.has_step(f"cut [2/1] (a) take own #0 {row} {rest}", RIGHT, "peel",
                          f"cut once (a) take own #0 {row} {rest}")

    def test_peel_in_the_body(self):
        for row in ["pick #0 left", "open #0 w 0", "pay #0 [3/3] own s"]:
            self.has_step(f"cut [9/9] (a) take own #0 {row} own #0", RIGHT, "peel",
                          f"cut once (a) take own #0 {row} cut [1/0] (a) take own #2 own #2")
            self.has_step(f"cut [9/9] (a) take own #0 {row} pick #0 right pick #0 left own #2", RIGHT, "peel",
                          f"cut once (a) take own #0 {row} "
                          "cut [2/0] (a) take own #2 pick #2 right pick #2 left own #3")

    def test_peel_in_paid_and_in_both(self):
        self.has_step("cut [9/9] (a) take own #0 pay #0 [3/3] own #0 own #1", RIGHT, "peel",
                      "cut once (a) take own #0 pay #0 [3/3] cut [1/0] (a) take own #1 own #1 own #1")
        self.has_step("cut [9/9] (a) take own #0 pay #0 once pay #0 [2/1] own #0 own #1 own #1", RIGHT, "peel",
                      "cut once (a) take own #0 pay #0 once cut [3/1] (a) take own #1 pay #1 [2/1] own #1 own #2 "
                      "own #1")
        self.has_step("cut [9/9] (a) take own #0 pay #0 once own #0 pay #0 once own s own #2", RIGHT, "peel",
                      "cut once (a) take own #0 pay #0 once cut [1/0] (a) take own #1 own #1 "
                      "cut [1/0] (a) take own #2 pay #2 once own s own #3")

    def test_meet_for_a_trade(self):
        self.has_step("cut once (a > b) take pick #0 left own #1 pay #0 once own s own #1", RIGHT, "meet",
                      "cut once (b) cut once (a) own s pick #0 left own #1 own #0")
        self.has_step("cut once (a [2/1] > b) take pay g once own #0 own #1 pay #0 [2/1] pick s left own #1 "
                      "pick #1 left own #2", RIGHT, "meet",
                      "cut once (b) cut [2/1] (a) pick s left own #0 pay g once own #0 own #1 pick #0 left own #1")
        before = parse_derivation("take cut once (a > b) take pay #0 once own #1 own #2 pay #1 once own x "
                                  "pay #2 once own y own #3")
        self.does((0,), before, RIGHT, "meet",
                  parse_derivation("take cut once (b) cut once (a) own x pay #0 once own #1 own #2 "
                                   "pay #1 once own y own #2"))

    def test_meet_for_a_menu(self):
        text = "cut once (a & (b > c)) offer pick x left own #0 take own x pick #0 {} pick #1 left own #2"
        self.has_step(text.format("left"), RIGHT, "meet",
                      "cut once (a) pick x left own #0 pick #0 left own #1")
        self.has_step(text.format("right"), RIGHT, "meet",
                      "cut once (b > c) take own x pick #0 left own #1")

    def test_meet_for_a_word(self):
        self.has_step("cut once (w) make w 0 own x open #0 w 0 own #1", RIGHT, "meet",
                      "cut once (a) cut once (a & b) own x pick #0 left own #1 own #0")
        self.has_step("cut once (w) make w 1 pick x left own #0 open #0 w 0 pay f once own #1 own #2", RIGHT, "meet",
                      "cut once (a) cut once (a) pick x left own #0 own #0 pay f once own #0 own #1")
        for text in ["cut once (w) make w 0 own x open #0 w 1 own #1", "cut once (w) make w 1 own x open #0 w 1 own #1"]:
            self.has_no_step(text, LEFT, RIGHT, UNFOLD)

    def test_what_does_not_meet(self):
        for source in ["cite e", "cut once (b) own x own #0"]:
            self.has_no_step(f"cut once (a > a) {source} pay #0 once own s own #1", RIGHT)
        for source in ["pick x left own #0", "own x", "open x w 0 own #0", "pay x once own y own #0"]:
            self.has_no_step(f"cut once (a > a) {source} pay #0 once own s own #1", RIGHT)
            self.has_no_step(f"cut once (a & a) {source} pick #0 left own #1", RIGHT)
            self.has_no_step(f"cut once (w) {source} open #0 w 0 own #1", RIGHT)

    def test_no_step_of_other_rows(self):
        for text in ["own x", "take own #0", "offer own x own y", "pick x left own #0", "pay f once own x own #0",
                     "make w 1 own x", "open x w 0 own #0"]:
            self.has_no_step(text, LEFT, RIGHT, UNFOLD)
            self.assertEqual(steps(self.library, parse_derivation(text)), [])


class UnfoldTest(StepTest):
    def test_unfold(self):
        self.has_step("cite e", UNFOLD, "unfold", "take own #0")
        self.has_step("cite f", UNFOLD, "unfold", "cut once (a > a) cite e own #0")
        before = parse_derivation("take take offer cite e cite f")
        self.does((0, 0, 0), before, UNFOLD, "unfold", parse_derivation("take take offer take own #2 cite f"))
        self.does((0, 0, 1), before, UNFOLD, "unfold",
                  parse_derivation("take take offer cite e cut once (a > a) cite e own #2"))
        self.has_no_step("cite e", LEFT, RIGHT, "up")

    def test_entries_that_the_library_does_not_have(self):
        self.has_no_step("cite none", UNFOLD, LEFT, RIGHT)
        self.has_no_step("cite w", UNFOLD)
        derivation = parse_derivation("offer cite none cite e")
        self.assertEqual(steps(self.library, derivation), [((1,), UNFOLD)])


class StepsTest(StepTest):
    def test_examples_of_the_interface(self):
        first = parse_derivation("cut [2/1] (a) own x pay f [2/1] own #0 own #1")
        self.assertEqual([steps(Library(), first), format_derivation(do_step(Library(), first, ((), "right")))],
                         [[((), "left"), ((), "right")], "pay f [2/1] cut [1/0] (a) own x own #0 own #0"])
        first = parse_derivation("cut [2/0] (a > a) own x pay #0 once pay #0 once own s own #1 own #1")
        self.assertEqual(format_derivation(do_step(Library(), first, ((), "right"))),
                         "cut once (a > a) own x pay #0 once cut [1/0] (a > a) own x pay #1 once own s own #2 own #1")

    def test_the_order_of_the_list(self):
        text = ("cut once (a) cut once (a) own x own #0 offer cut [1/0] (a) own y own #0 "
                "pick z left pay f once cite e cut once (b) own #1 own #3")
        derivation = parse_derivation(text)
        self.assertEqual(steps(self.library, derivation), [
            ((), RIGHT), ((0,), LEFT), ((0,), RIGHT), ((1, 0), LEFT), ((1, 0), RIGHT), ((1, 1, 0, 0), UNFOLD),
            ((1, 1, 0, 1), LEFT), ((1, 1, 0, 1), RIGHT)])
        check_new(self, lambda row: steps(self.library, row), derivation)

    def test_no_step_where_a_path_leads_nowhere(self):
        derivation = parse_derivation("take cut once (a) own #0 own #1")
        for path in [(), (1,), (-1,), (0, 0), (0, 0, 0), (0, 2), (0, -1), (5, 5, 5)]:
            for way in [LEFT, RIGHT, UNFOLD, "other"]:
                for call in (step_name, do_step):
                    self.assertEqual(error_of(call, self.library, derivation, (path, way)),
                                     ("NoStep", {"path": path, "way": way}))
        self.assertEqual(step_name(self.library, derivation, ((0,), LEFT)), "rename")

    def test_a_hold_of_the_same_level_in_another_branch(self):
        # The level 1 is used in source and beside the cut, but not in its body.
        text = "pay f once take own #0 cut [1/0] (a > a) pick x left own #1 offer own y take own #2"
        derivation = parse_derivation(text)
        self.assertEqual(steps(self.library, derivation), [((1,), RIGHT)])
        self.assertEqual(step_name(self.library, derivation, ((1,), RIGHT)), "drop")

    def test_against_the_definition(self):
        source = random.Random(39)
        names = {}
        for _ in range(150):
            library = draw_full_library(source)
            claim, derivation = draw_derivation(source, library, source.choice([2, 3, 4]))
            for _ in range(30):
                expected = {}
                for path, name in walk(derivation):
                    for way in (LEFT, RIGHT, UNFOLD):
                        found = plain_step(library, part(derivation, path), level_at(derivation, path), way)
                        if found is not None:
                            expected[(path, way)] = (found[0], with_part(derivation, path, found[1]))
                self.assertEqual(steps(library, derivation), list(expected))
                for step, (name, result) in expected.items():
                    self.assertEqual(step_name(library, derivation, step), name)
                    self.assertEqual(do_step(library, derivation, step), result)
                    names[name] = names.get(name, 0) + 1
                if not expected:
                    break
                derivation = expected[source.choice(list(expected))][1]
        self.assertEqual(len(names), 8)
        self.assertGreater(min(names.values()), 50, names)


class FactsTest(StepTest):
    def test_results_show_the_claim_and_have_a_smaller_load(self):
        """Points 40 and 48."""
        source = random.Random(48)
        steps_done = 0
        for _ in range(150):
            library = draw_full_library(source)
            claim, derivation = draw_derivation(source, library, source.choice([2, 3, 4]))
            for _ in range(12):
                before, greatest = tally(library, derivation), greatest_play(library, derivation)
                self.assertEqual(before.load == 0, is_bare(derivation))
                results = [do_step(library, derivation, step) for step in steps(library, derivation)]
                for result in results:
                    self.assertTrue(accepts(library, claim, result))
                    after = tally(library, result)
                    self.assertLess(after.load, before.load)
                    self.assertLessEqual(after.plays, before.plays)
                    self.assertLessEqual(after.rows, before.rows)
                    self.assertLessEqual(greatest_play(library, result), greatest)
                    steps_done += 1
                if not results:
                    self.assertTrue(is_bare(derivation) or not library.is_whole)
                    break
                derivation = source.choice(results)
        self.assertGreater(steps_done, 1000)


if __name__ == "__main__":
    unittest.main()
