"""Points 66 and 68: searching."""

import random
import unittest

from drawing import draw_claim, draw_library
from helper import boxes_in
from heldproofs.checking import accepts
from heldproofs.claims import bare_claim
from heldproofs.claimtext import parse_claim
from heldproofs.ends import ends
from heldproofs.library import Library
from heldproofs.rows import is_bare
from heldproofs.rowtext import parse_derivation
from heldproofs.searching import Answer, Searcher, search
from heldproofs.sentencetext import parse_sentence
from plain import Shown, is_refutation, is_settled, plain_ends


class AnswerTest(unittest.TestCase):
    def numbers(self, text, library=None, **more):
        answer = search(library or Library(), parse_claim(text), **more)
        return answer.outcome, answer.looked

    def is_right(self, library, claim, answer):
        """What an answer holds shows what its outcome says."""
        self.assertIs(type(answer), Answer)
        self.assertEqual(set(vars(answer)), {"outcome", "derivation", "table", "looked"})
        if answer.outcome == "shown":
            self.assertTrue(accepts(library, claim, answer.derivation))
            self.assertTrue(is_bare(answer.derivation))
            self.assertTrue(is_settled(answer.derivation))
            self.assertIsNone(answer.table)
        elif answer.outcome == "refuted":
            self.assertIsNone(answer.derivation)
            self.assertTrue(is_refutation(library, answer.table, bare_claim(claim)))
        else:
            self.assertEqual((answer.outcome, answer.derivation, answer.table), ("open", None, None))


class SearchTest(AnswerTest):
    def test_example_of_the_interface(self):
        answer = search(Library(), parse_claim("x: a |- b"), limit=0)
        self.assertEqual([answer.outcome, answer.derivation, answer.table, answer.looked],
                         ["refuted", None, [((("once", ("word", "a")),), ("word", "b"))], 0])

    def test_shown(self):
        library = Library()
        library.define("w", makes=[parse_sentence("a")], opens=[parse_sentence("a > b")])
        for claim, derivation in [
            ("x: a |- a", "own x"),
            ("x: a & b |- b", "pick x right own #0"),
            ("x: a & b |- b & a", "offer pick x right own #0 pick x left own #0"),
            ("|- a [2/1] > a", "take own #0"),
            ("f: a [2/1] > b, s [2/1]: a |- b", "pay f [2/1] own s own #0"),
            ("x: a |- w", "make w 0 own x"),
            ("x: w, y: a |- b", "open x w 0 pay #0 once own y own #1"),
            ("f: a > b > c, x: a, y: b |- c", "pay f once own x pay #0 once own y own #1"),
            ("f: (a > b) > c, g: a > b |- c", "pay f once take pay g once own #0 own #1 own #0"),
        ]:
            answer = search(library, parse_claim(claim))
            self.assertEqual(answer.derivation, parse_derivation(derivation))
            self.is_right(library, parse_claim(claim), answer)

    def test_refuted(self):
        for claim in ["|- a", "x: a |- b", "x: a |- a & b", "x: a > a |- a", "x: a, y: a |- a", "x: a |- a [1/0] > b",
                      "f: a > a > b, x: a |- b", "x: w |- a", "x: a |- w", "f: a [2/1] > b, x [2/0]: a |- b",
                      "f: a [2/1] > b, x [1/1]: a |- b", "f: (a > b) > a |- a"]:
            answer = search(Library(), parse_claim(claim))
            self.assertEqual(answer.outcome, "refuted", claim)
            self.is_right(Library(), parse_claim(claim), answer)

    def test_looked(self):
        for text, expected in [
            ("x: a |- a", ("shown", 1)), ("x: a |- b", ("refuted", 0)), ("|- a > a", ("shown", 2)),
            # The premise of both sides is settled once.
            ("x: a |- a & a", ("shown", 2)), ("x: a |- a & a & a & a", ("shown", 4)),
            # The end is given up at its first refuted premise.
            ("x: a |- b & a", ("refuted", 1)), ("x: a |- a & b", ("refuted", 2)),
            ("f [9/0]: a > a |- a", ("refuted", 9)), ("f: a > a, x: a |- a", ("shown", 2)),
            # Equal pairs count once.
            ("f: a > b, g: a > b, h: a > b |- b", ("refuted", 1)),
        ]:
            self.assertEqual(self.numbers(text), expected, text)
            self.assertEqual(self.numbers(text, order="backward"), expected, text)

    def test_a_limit(self):
        self.assertEqual(self.numbers("x: a |- a", limit=0), ("open", 0))
        self.assertEqual(self.numbers("x: a |- a", limit=1), ("shown", 1))
        self.assertEqual(self.numbers("x: a |- b", limit=0), ("refuted", 0))
        self.assertEqual(self.numbers("f [9/0]: a > a |- a", limit=8), ("open", 8))
        self.assertEqual(self.numbers("f [9/0]: a > a |- a", limit=9), ("refuted", 9))
        self.assertEqual(self.numbers("f [9/0]: a > a |- a", limit=None), ("refuted", 9))
        self.assertEqual(self.numbers("x: a |- a & a", limit=1), ("open", 1))
        self.assertEqual(self.numbers("x: a |- a & a", limit=2), ("shown", 2))

    def test_backward_is_the_opposite_order(self):
        # One end is shown, the others are refuted at once: the looks of both orders are one more than the ends.
        for count in range(1, 7):
            for place in range(count):
                holds = [f"h{at} [1/0]: " + ("d" if at == place else f"a{at} > d") for at in range(count)]
                text = ", ".join(holds) + " |- d"
                looks = [self.numbers(text, order=order) for order in ["forward", "backward"]]
                self.assertEqual([outcome for outcome, looked in looks], ["shown", "shown"])
                self.assertEqual(sum([looked for outcome, looked in looks]), count + 1)
        # The same with one way and its sharings: c of x must go to the price c.
        for prices in ["c > b > b > b > d", "b > b > c > b > d", "b > b > b > c > d"]:
            text = f"f: {prices}, y [9/9]: b, x: c |- d"
            looks = [self.numbers(text, order=order)[1] for order in ["forward", "backward"]]
            self.assertGreaterEqual(min(looks), 3)

    def test_ends_are_made_one_at_a_time(self):
        many = ", ".join([f"h{at} [400/100]: a > a > a > a > a > a > a > b" for at in range(20)])
        for order in ["forward", "backward"]:
            self.assertEqual(self.numbers(many + " |- b", limit=300, order=order), ("open", 300))
            self.assertEqual(self.numbers(many + " |- c", limit=0, order=order), ("refuted", 0))
            self.assertEqual(self.numbers(many + ", x: c |- b", limit=300, order=order), ("open", 300))

    def test_deep_searches(self):
        self.assertEqual(self.numbers("f [400/0]: a > a |- a"), ("refuted", 400))
        holds = ", ".join([f"f{at}: a{at} > a{at + 1}" for at in range(18)])
        answer = search(Library(), parse_claim(holds + ", x: a0 |- a18"))
        self.is_right(Library(), parse_claim(holds + ", x: a0 |- a18"), answer)
        self.assertEqual(answer.outcome, "shown")

    def test_names_do_not_matter(self):
        source = random.Random(66)
        for _ in range(100):
            library, (holds, goal) = draw_library(source), draw_claim(source, 4, 2)
            others = [("n" + str(at), kind, sentence) for at, (name, kind, sentence) in enumerate(holds)]
            source.shuffle(others)
            first, second = search(library, (holds, goal)), search(library, (tuple(others), goal))
            self.assertEqual((first.outcome, first.looked, first.table), (second.outcome, second.looked, second.table))
            self.is_right(library, (tuple(others), goal), second)

    def test_against_the_definition(self):
        source = random.Random(660)
        outcomes = []
        for _ in range(400):
            library, claim = draw_library(source), draw_claim(source, 4, 2)
            shown = Shown(library)
            expected = "shown" if shown(bare_claim(claim)) else "refuted"
            for order in ["forward", "backward"]:
                answer = search(library, claim, order=order)
                self.assertEqual(answer.outcome, expected)
                self.is_right(library, claim, answer)
                self.agrees_with_limits(library, claim, answer, order)
            outcomes.append(expected)
        self.assertGreater(outcomes.count("shown"), 40)

    def agrees_with_limits(self, library, claim, whole, order):
        for limit in {0, 1, whole.looked // 2, whole.looked - 1, whole.looked, whole.looked + 1} - {-1}:
            answer = search(library, claim, limit=limit, order=order)
            if limit < whole.looked:
                self.assertEqual((answer.outcome, answer.looked), ("open", limit))
                self.is_right(library, claim, answer)
            else:
                self.assertEqual(vars(answer), vars(whole))

    def test_no_end_is_looked_at_twice(self):
        source = random.Random(661)
        for _ in range(100):
            library, claim = draw_library(source), draw_claim(source, 4, 2)
            reached = {bare_claim(claim): 0}
            waiting = [bare_claim(claim)]
            while waiting:
                each = waiting.pop()
                found = plain_ends(library, *each)
                reached[each] = len(found)
                for premise in [premise for end in found for premise in end]:
                    if premise not in reached:
                        reached[premise] = 0
                        waiting.append(premise)
            for order in ["forward", "backward"]:
                self.assertLessEqual(search(library, claim, order=order).looked, sum(reached.values()))

    def test_tables_are_new_and_hold_no_lists(self):
        claim = parse_claim("f [3/0]: a > a |- a & b")
        first, second = search(Library(), claim), search(Library(), claim)
        self.assertEqual(len(boxes_in(first.table)), 1)
        self.assertIsNot(first.table, second.table)


class SearcherTest(AnswerTest):
    def test_a_second_time_no_end_is_looked_at(self):
        library = Library()
        searcher = Searcher(library)
        self.assertEqual(len(searcher), 0)
        for text, outcome in [("x: a |- a & a", "shown"), ("f [3/0]: a > a |- a", "refuted")]:
            claim = parse_claim(text)
            self.assertNotIn(claim, searcher)
            first, second = searcher.seek(claim), searcher.seek(claim)
            self.assertEqual((first.outcome, second.outcome, second.looked), (outcome, outcome, 0))
            self.assertEqual((first.derivation, first.table), (second.derivation, second.table))
            self.assertIn(claim, searcher)
            self.is_right(library, claim, second)
        self.assertEqual(len(searcher), 2 + 4)

    def test_names_of_the_claim(self):
        searcher = Searcher(Library())
        searcher.seek(parse_claim("f: a > b, s: a |- b"))
        answer = searcher.seek(parse_claim("y: a, g: a > b |- b"))
        self.assertEqual((answer.derivation, answer.looked), (parse_derivation("pay g once own y own #0"), 0))
        self.assertIn(parse_claim("p: a, q: a > b |- b"), searcher)
        self.assertNotIn(parse_claim("p [1/0]: a, q: a > b |- b"), searcher)
        self.assertNotIn(parse_claim("p: a, q: a > b |- new"), searcher)

    def test_premises_settled_on_the_way(self):
        searcher = Searcher(Library())
        self.assertEqual(searcher.seek(parse_claim("f: a > b, s: a |- b")).looked, 2)
        self.assertEqual(len(searcher), 2)
        self.assertIn(parse_claim("s: a |- a"), searcher)
        self.assertEqual(searcher.seek(parse_claim("s: a |- a")).looked, 0)
        # Of this claim only its own end is looked at.
        self.assertEqual(searcher.seek(parse_claim("f: a > b |- a > b")).looked, 1)
        self.assertEqual(len(searcher), 3)
        self.assertEqual(searcher.seek(parse_claim("g [2/0]: c > c |- c")).looked, 2)
        self.assertIn(parse_claim("g [1/0]: c > c |- c"), searcher)
        self.assertIn(parse_claim("|- c"), searcher)
        self.assertEqual(searcher.seek(parse_claim("|- c")).table, [((), ("word", "c"))])

    def test_a_change_of_the_library_forgets_all(self):
        library = Library()
        searcher = Searcher(library)
        claim = parse_claim("x: a |- w")
        changes = [
            lambda: library.define("w", makes=[parse_sentence("a")]), lambda: library.undefine("w"),
            lambda: library.keep("e", parse_sentence("a > a"), parse_derivation("take own #0")),
            lambda: library.forget("e"), lambda: library.define("v"),
        ]
        outcomes = ["shown", "refuted", "refuted", "refuted", "refuted"]
        self.assertEqual(searcher.seek(claim).outcome, "refuted")
        for change, outcome in zip(changes, outcomes):
            self.assertGreater(len(searcher), 0)
            self.assertIn(claim, searcher)
            change()
            self.assertEqual(len(searcher), 0)
            self.assertNotIn(claim, searcher)
            answer = searcher.seek(claim)
            self.assertEqual((answer.outcome, answer.looked), (outcome, search(library, claim).looked))
            self.is_right(library, claim, answer)
            self.assertEqual(len(searcher), 2 if outcome == "shown" else 1)
        # A change that is refused is none, and a twin is another library.
        with self.assertRaises(ValueError):
            library.define("v")
        library.twin().define("u")
        self.assertIn(claim, searcher)

    def test_clear(self):
        searcher = Searcher(Library())
        claim = parse_claim("f: a > b, s: a |- b")
        searcher.seek(claim)
        self.assertIsNone(searcher.clear())
        self.assertEqual(len(searcher), 0)
        self.assertNotIn(claim, searcher)
        self.assertEqual(searcher.seek(claim).looked, 2)

    def test_a_limit_for_each_call(self):
        searcher = Searcher(Library(), limit=3)
        claim = parse_claim("f [9/0]: a > a |- a")
        answer = searcher.seek(claim)
        self.assertEqual((answer.outcome, answer.looked), ("open", 3))
        self.assertNotIn(claim, searcher)
        self.assertEqual(len(searcher), 0)
        for text in ["f [2/0]: a > a |- a", "f [5/0]: a > a |- a", "f [8/0]: a > a |- a", "f [9/0]: a > a |- a"]:
            answer = searcher.seek(parse_claim(text))
            self.is_right(Library(), parse_claim(text), answer)
            self.assertEqual(answer.outcome, "refuted")
        self.assertEqual(len(searcher), 10)
        self.assertEqual(Searcher(Library(), limit=0).seek(parse_claim("x: a |- a")).outcome, "open")

    def test_what_an_open_call_has_settled_is_remembered(self):
        searcher = Searcher(Library(), limit=3)
        claim = parse_claim("x: a |- (a & a) & (b > a)")
        self.assertEqual(searcher.seek(claim).outcome, "open")
        self.assertIn(parse_claim("x: a |- a & a"), searcher)
        self.assertIn(parse_claim("x: a |- a"), searcher)
        self.assertNotIn(claim, searcher)
        self.assertEqual(searcher.seek(claim).outcome, "refuted")

    def test_the_order(self):
        for text in ["h0 [1/0]: a > d, h1 [1/0]: b > d, h2 [1/0]: c > d, h3 [1/0]: d |- d"]:
            looks = []
            for order in ["forward", "backward"]:
                searcher, looked = Searcher(Library(), order=order), search(Library(), parse_claim(text), order=order).looked
                self.assertEqual(searcher.seek(parse_claim(text)).looked, looked)
                searcher.clear()
                self.assertEqual(searcher.seek(parse_claim(text)).looked, looked)
                looks.append(looked)
            self.assertNotEqual(*looks)

    def test_like_search(self):
        source = random.Random(68)
        for _ in range(15):
            library = draw_library(source)
            order = source.choice(["forward", "backward"])
            searcher = Searcher(library, order=order)
            known = {}
            for _ in range(25):
                claim = draw_claim(source, 4, 2)
                single = search(library, claim, order=order)
                remembered = claim in searcher
                self.assertEqual(remembered, bare_claim(claim) in known or remembered)
                answer = searcher.seek(claim)
                self.assertEqual(answer.outcome, single.outcome)
                self.is_right(library, claim, answer)
                self.assertLessEqual(answer.looked, 0 if remembered else single.looked)
                known[bare_claim(claim)] = True
                for pairs, goal in answer.table or []:
                    known[(pairs, goal)] = True
                for pairs, goal in known:
                    named = tuple([("n" + str(at),) + pair for at, pair in enumerate(pairs)])
                    self.assertIn((named, goal), searcher)
                self.assertGreaterEqual(len(searcher), len(known))

    def test_it_sees_the_library_that_it_was_given(self):
        library = Library()
        searcher = Searcher(library)
        library.define("w", makes=[parse_sentence("a")])
        self.assertEqual(searcher.seek(parse_claim("x: a |- w")).outcome, "shown")
        self.assertEqual(len(ends(library, (), ("word", "w"))), 1)


if __name__ == "__main__":
    unittest.main()
