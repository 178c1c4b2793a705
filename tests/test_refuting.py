"""Points 67 and 69: refutations, spans and doubts."""

import copy
import random
import unittest

from drawing import draw_bare, draw_claim, draw_library
from helper import check_new, random_sentence
from heldproofs.claims import bare_claim
from heldproofs.claimtext import parse_claim
from heldproofs.library import Library
from heldproofs.refuting import doubts, refutes, span
from heldproofs.searching import search
from heldproofs.sentencetext import parse_sentence
from plain import is_refutation
from plainclaims import plain_doubts, plain_span


def bare(text):
    return bare_claim(parse_claim(text))


def table(*texts):
    return [bare(text) for text in texts]


class RefutesTest(unittest.TestCase):
    def check(self, claim, told, expected, library=None):
        library = library or Library()
        claim = parse_claim(claim)
        before = copy.deepcopy(told)
        found = refutes(library, told, claim)
        self.assertIs(found, expected)
        self.assertEqual(told, before)
        self.assertEqual(is_refutation(library, told, bare_claim(claim)), expected)

    def test_claims_without_ends(self):
        self.check("x: a |- b", table("x: a |- b"), True)
        self.check("|- b", table("|- b"), True)
        self.check("x [9/9]: a & c |- b", table("y [9/9]: a & c |- b"), True)

    def test_the_table_lacks_the_claim(self):
        self.check("x: a |- b", [], False)
        self.check("x: a |- b", table("x: a |- c"), False)
        self.check("x: a |- b", table("x: a, y: a |- b"), False)
        self.check("x: a |- b", table("x [1/0]: a |- b"), False)
        self.check("x: a, y: a |- b", table("x: a |- b"), False)

    def test_an_end_without_premises(self):
        self.check("x: a |- a", table("x: a |- a"), False)
        self.check("x [2/0]: a |- a", table("x [2/0]: a |- a"), False)
        self.check("x: a, y: a |- a", table("x: a, y: a |- a"), True)
        # Such a claim spoils the table for every claim.
        self.check("x: a |- b", table("x: a |- b", "x: a |- a"), False)

    def test_claims_with_premises(self):
        self.check("f: a > b |- b", table("f: a > b |- b"), False)
        self.check("f: a > b |- b", table("f: a > b |- b", "|- a"), True)
        self.check("|- a > b", table("|- a > b"), False)
        self.check("|- a > b", table("|- a > b", "x: a |- b"), True)
        self.check("x: a |- a & b", table("x: a |- a & b", "x: a |- b"), True)
        self.check("x: a |- a & b", table("x: a |- a & b", "x: a |- a"), False)
        self.check("f: a > b > c, x: a |- c", table("f: a > b > c, x: a |- c", "|- b", "|- a"), True)
        # x goes to a or to b: the first end has the premises of x for a and nothing for b.
        self.check("f: a > b > c, x: a |- c", table("f: a > b > c, x: a |- c", "|- b"), False)
        self.check("f: a > b > c, x: a |- c", table("f: a > b > c, x: a |- c", "|- a"), False)
        self.check("f: a > b > c, x: a |- c", table("f: a > b > c, x: a |- c", "|- b", "x: a |- b"), True)

    def test_what_does_not_matter(self):
        right = table("g: b > c, f: a > b |- c", "f: a > b |- b", "|- a", "g: b > c |- b")
        # An end of the second claim may go on with either of its premises.
        expected = is_refutation(Library(), right, bare("f: a > b, g: b > c |- c"))
        self.assertTrue(expected)
        for told in [right, right[::-1], right * 2, right + right[:1],
                     [(pairs[::-1], goal) for pairs, goal in right],
                     right + table("x: a, y: c |- d"), right + table("y: c, x: a |- d") * 2]:
            self.check("f: a > b, g: b > c |- c", told, True)
            self.check("other: b > c, x1: a > b |- c", told, True)

    def test_a_claim_too_many(self):
        right = table("f: a > b |- b", "|- a")
        self.check("f: a > b |- b", right + table("f: a > b, x: a |- b"), False)
        self.check("f: a > b |- b", right + table("f: c > b |- b"), False)
        self.check("f: a > b |- b", right + table("f: c > b |- b", "|- c"), True)
        self.check("f: a > b |- b", right + table("|- a > d"), False)

    def test_defined_words(self):
        library = Library()
        library.define("w", makes=[parse_sentence("a"), parse_sentence("b & c")], opens=[parse_sentence("a > d")])
        self.check("x: c |- w", table("x: c |- w"), False, library)
        self.check("x: c |- w", table("x: c |- w", "x: c |- a"), False, library)
        self.check("x: c |- w", table("x: c |- w", "x: c |- a", "x: c |- b & c", "x: c |- b"), True, library)
        self.check("x: c |- w", table("x: c |- w"), True, Library())
        self.check("x: w |- d", table("x: w |- d"), False, library)
        self.check("x: w |- d", table("x: w |- d", "|- a"), True, library)

    def test_stock(self):
        self.check("s [2/0]: a > a |- a", table("s [2/0]: a > a |- a"), False)
        self.check("s [2/0]: a > a |- a", table("s [2/0]: a > a |- a", "s [1/0]: a > a |- a", "|- a"), True)
        self.check("s [2/0]: a > a |- a", table("s [2/0]: a > a |- a", "s [1/0]: a > a |- a"), False)
        self.check("f: a [1/1] > b, s [2/0]: a |- b", table("f: a [1/1] > b, s [2/0]: a |- b", "|- a"), True)

    def test_claims_with_many_ends(self):
        # 40 uses of each of two stock holds are shared between two prices.
        claim = parse_claim("f: a > a > b, s [40/0]: a, t [40/0]: c |- b")
        self.assertFalse(refutes(Library(), [bare_claim(claim)], claim))
        # Only the end with nothing of s for one of the prices has a premise in this table.
        self.assertFalse(refutes(Library(), [bare_claim(claim)] + table("t [40/0]: c |- a"), claim))

    def test_tables_of_searches(self):
        source = random.Random(67)
        seen = {True: 0, False: 0}
        for _ in range(400):
            library = draw_library(source)
            claim = draw_claim(source, 3, 2)
            answer = search(library, claim, limit=300, order=source.choice(["forward", "backward"]))
            if answer.outcome != "refuted" or len(answer.table) > 40:
                continue
            told = answer.table
            self.assertTrue(refutes(library, told, claim))
            turned = [(tuple(source.sample(pairs, len(pairs))), goal) for pairs, goal in told]
            self.assertTrue(refutes(library, source.sample(turned, len(turned)) + told[:2], claim))
            left_out = source.choice(told)
            others = [[each for each in told if each != left_out],
                      told + [bare_claim(draw_claim(source, 2, 2))], told[:source.randrange(len(told) + 1)]]
            for other in others:
                expected = is_refutation(library, other, bare_claim(claim))
                self.assertIs(refutes(library, other, claim), expected)
                seen[expected] += 1
        self.assertGreater(min(seen.values()), 60)

    def test_shown_claims_have_no_refutation(self):
        source = random.Random(68)
        for _ in range(60):
            library, claim, derivation = draw_bare(source, 3)
            answer = search(library, claim, limit=200)
            told = [bare_claim(claim)] + (answer.table or []) + table("|- a", "|- b", "x: a |- b")
            self.assertFalse(refutes(library, told, claim))


class SpanTest(unittest.TestCase):
    def test_words_menus_and_trades(self):
        for text, name, expected in [
            ("a", "a", (1, 1)), ("a", "b", (0, 0)), ("a & b", "a", (0, 1)), ("a & a", "a", (1, 1)),
            ("a & b", "c", (0, 0)), ("a > b", "a", (-1, -1)), ("a > b", "b", (1, 1)), ("a > a", "a", (0, 0)),
            ("a > b > c", "a", (-1, -1)), ("a > a > b", "a", (-2, -2)), ("(a > b) > c", "a", (1, 1)),
            ("(a > b) > c", "b", (-1, -1)), ("a & b > c", "a", (-1, 0)), ("a & b > a", "a", (0, 1)),
            ("a > b & a", "a", (-1, 0)), ("(a > b) & c", "a", (-1, 0)),
            # A price in stock gives from nothing to all of its uses, with the sign of its span.
            ("a [3/0] > b", "a", (-3, 0)), ("a [3/9] > b", "b", (1, 1)), ("(a > c) [3/0] > b", "a", (0, 3)),
            ("(a > b & a) [2/0] > c", "a", (0, 2)), ("(a > a & b) & a [2/0] > c", "a", (-2, 2)),
            ("a [3/0] > a", "a", (-2, 1)), ("(a [2/0] > c) [3/0] > b", "a", (0, 6)),
            ("a [2/0] > a [3/0] > b", "a", (-5, 0)), ("a [2/0] > a > b", "a", (-3, -1)),
        ]:
            found = span(parse_sentence(text), name)
            self.assertEqual(found, expected, (text, name))
            self.assertIs(type(found), tuple)
            self.assertEqual(plain_span(parse_sentence(text), name), expected)

    def test_drawn(self):
        source = random.Random(69)
        for _ in range(500):
            sentence = random_sentence(source, 4)
            for name in ["a", "b", "own", "none"]:
                self.assertEqual(span(sentence, name), plain_span(sentence, name))

    def test_large(self):
        sentence = parse_sentence("a")
        for _ in range(60):
            sentence = ("trade", (2, 0), sentence, ("word", "b"))
        self.assertEqual(span(sentence, "b"), plain_span(sentence, "b"))
        self.assertEqual(span(sentence, "a"), plain_span(sentence, "a"))
        sentence = parse_sentence("a")
        for _ in range(149):
            sentence = ("menu", sentence, ("trade", "once", ("word", "a"), ("word", "b")))
        self.assertEqual((span(sentence, "a"), span(sentence, "b")), ((-1, 1), (0, 1)))


class DoubtsTest(unittest.TestCase):
    def test_example_of_the_interface(self):
        self.assertEqual(doubts(parse_claim("f: (a > b) > c |- c")), ["a", "b"])

    def test_claims(self):
        for text, expected in [
            ("x: a |- a", []), ("x: a |- b", ["a", "b"]), ("|- a > a", []), ("|- a", ["a"]),
            ("z: b, y: a |- c", ["a", "b", "c"]), ("x: a, y: a |- a", ["a"]), ("f: a > b, x: a |- b", []),
            ("f: a > b |- b", ["a"]), ("x [2/0]: a |- a", []), ("x [2/0]: a, y: a |- a", []),
            ("x [1/0]: a |- b", ["b"]), ("x: a & b |- a & b", []), ("x: a & b |- a & c", ["c"]),
            ("x: a |- b > a", ["b"]), ("x: a |- b [1/0] > a", []), ("|- a [1/0] > a [1/0] > b", ["b"]),
            ("x: a & b |- c > a", ["c"]), ("f: a [2/0] > b, x: a, y: a |- b", []),
            ("f: a [2/0] > b, x: a, y: a, z: a |- b", ["a"]), ("f [2/0]: a > a, x: a |- a", []),
            ("x: a |- a & (a > b)", ["a", "b"]),
            # Balanced in every word, although no derivation shows it.
            ("x: a > b, y: b > a |- c > c", []), ("f: (a > b) > c |- (b > a) > c", ["a", "b"]),
        ]:
            self.assertEqual(doubts(parse_claim(text)), expected, text)
            self.assertEqual(plain_doubts(parse_claim(text)), expected, text)

    def test_each_leg_of_the_goal(self):
        self.assertEqual(doubts(parse_claim("x: b |- b & (a > b)")), ["a"])
        self.assertEqual(doubts(parse_claim("x: b |- (a > b) & b")), ["a"])

    def test_results_are_new(self):
        check_new(self, doubts, parse_claim("z: b, y: a |- c"))
        check_new(self, lambda claim: [doubts(claim)], parse_claim("x: a |- a"))

    def test_drawn(self):
        source = random.Random(70)
        some = 0
        for _ in range(600):
            claim = draw_claim(source, 4, 3, "abc")
            found = doubts(claim)
            self.assertEqual(found, plain_doubts(claim))
            self.assertEqual(found, sorted(found))
            some += len(found) == 1
        self.assertGreater(some, 30)

    def test_no_doubt_for_what_some_derivation_shows(self):
        source = random.Random(71)
        checked = 0
        for _ in range(600):
            library, claim, derivation = draw_bare(source, source.choice([2, 3, 4]))
            if "'make'" in str(derivation) or "'open'" in str(derivation):
                continue
            self.assertEqual(doubts(claim), [])
            checked += 1
        self.assertGreater(checked, 300)

    def test_doubts_against_searches(self):
        source = random.Random(72)
        for _ in range(300):
            claim = draw_claim(source, 3, 2, "ab")
            if doubts(claim):
                self.assertNotEqual(search(Library(), claim, limit=300).outcome, "shown")

    def test_many_words(self):
        holds = []
        for at in range(20):
            sentence = ("word", "w")
            for number in range(70):
                sentence = ("trade", "once", ("word", f"a{at}x{number}"), ("menu", sentence, ("word", "w")))
            holds.append(("h" + str(at), (2, 0), sentence))
        self.assertEqual(doubts((tuple(holds), ("word", "w"))), [])
        self.assertEqual(doubts((tuple(holds), ("word", "none"))), ["none"])


if __name__ == "__main__":
    unittest.main()
