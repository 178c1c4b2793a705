"""Point 72: building worlds."""

import random
import unittest

from helper import check_new, error_of
from heldproofs.checking import accepts
from heldproofs.claimtext import parse_claim
from heldproofs.library import Library
from heldproofs.refuting import doubts, refutes
from heldproofs.searching import search
from heldproofs.worldbuilding import build_world
from heldproofs.worlds import World
from plainclaims import plain_collections, plain_fails
from test_worlds import once_sentence

FAILING = [
    "f: (a > b) > c |- c", "|- a", "x: a |- b", "x: a, y: a |- a", "x: a |- a & b", "|- a > b", "|- a > a > a",
    "f: a > b |- b", "f: a > b, x: a, y: a |- b", "f: a & b > c, x: a |- c", "x: a & b |- a & (b > c)",
    "f: (a > b) > c, g: a > a > b |- c", "f: (a & b > c) > d |- d", "|- (a > b) > b", "f: (a > b) > (b > a) > c |- c",
    "x: a & b, y: a |- c & a", "f: a > b, g: b > a |- c > c", "|- ((a > b) > a) > a", "x: a > b |- b > a",
]

SHOWN = [
    "x: a |- a", "|- a > a", "x: a & b |- b", "x: a & b |- b & a", "f: a > b, x: a |- b", "|- a > b > (a > b > c) > c",
    "f: (a > a) > b |- b", "|- (a > b) > a > b", "f: a > b, g: b > c |- a > c", "x: a & b |- (b > c) > (c > a) > a",
]


def needed(text_or_claim):
    """The needed number, by the plain definition."""
    return len(plain_collections(text_or_claim)) + 1


class BuildTest(unittest.TestCase):
    def check_world(self, claim, found):
        self.assertIs(type(found), tuple)
        world, places = found
        self.assertIs(type(world), World)
        self.assertIs(type(places), list)
        self.assertEqual(len(places), len(claim[0]))
        self.assertTrue(world.fails(claim, places))
        products = [[world.product(a, b) for b in range(len(world))] for a in range(len(world))]
        facts = {name: [at for at in range(len(world)) if world.has(at, ("word", name))] for name in "abcd"}
        self.assertTrue(plain_fails(products, facts, claim, places))

    def test_example_of_the_interface(self):
        claim = parse_claim("f: (a > b) > c |- c")
        self.assertEqual(error_of(build_world, claim, limit=3), ("WorldTooLarge", {"limit": 3}))
        self.check_world(claim, build_world(claim, limit=4))

    def test_the_collections_of_the_example(self):
        found = plain_collections(parse_claim("f: (a > b) > c |- c"))
        sentence = parse_claim("f: (a > b) > c |- c")[0][0][2]
        self.assertEqual(found, {(), (sentence,), (("word", "a"),)})

    def test_claims_that_fail(self):
        for text in FAILING:
            claim = parse_claim(text)
            self.assertEqual(search(Library(), claim).outcome, "refuted", text)
            self.check_world(claim, build_world(claim))
            self.check_world(claim, build_world(claim, limit=needed(claim)))

    def test_claims_that_are_shown(self):
        for text in SHOWN:
            claim = parse_claim(text)
            self.assertIsNone(build_world(claim), text)
            self.assertIsNone(build_world(claim, limit=needed(claim)))

    def test_limits(self):
        # Whether some derivation shows the claim does not matter here.
        for text in FAILING + SHOWN:
            claim = parse_claim(text)
            for limit in sorted({0, 1, 2, needed(claim) // 2, needed(claim) - 1}):
                if limit < needed(claim):
                    self.assertEqual(error_of(build_world, claim, limit=limit), ("WorldTooLarge", {"limit": limit}))
            for limit in [needed(claim), needed(claim) + 1, 1000]:
                self.assertIsNone(error_of(build_world, claim, limit=limit))

    def test_numbers_of_collections(self):
        for text, number in [("|- a", 1), ("x: a |- b", 2), ("x: a, y: a |- b", 3), ("x: a, y: b |- b", 4),
                             ("|- a > b", 2), ("|- a > a > b", 3), ("x: a |- b & (c > d)", 4),
                             ("f: (a > b) > c |- c", 3), ("f: (a > b) > (b > a) > c |- c", 4),
                             ("f: (a > b) > c, x: d |- c", 6), ("f: ((a > b) > c) > d |- d", 3)]:
            self.assertEqual(len(plain_collections(parse_claim(text))), number, text)
            self.assertIsNone(error_of(build_world, parse_claim(text), limit=number + 1))
            self.assertEqual(error_of(build_world, parse_claim(text), limit=number)[0], "WorldTooLarge")

    def test_forty_if_nothing_is_said(self):
        six = parse_claim("a1: a, a2: b, a3: c, a4: d, a5: e |- z")
        self.assertEqual(needed(six), 33)
        self.assertIsNone(error_of(build_world, six))
        more = parse_claim("a1: a, a2: b, a3: c, a4: d, a5: e & (x > y), x: a > b |- z")
        self.assertGreater(needed(more), 40)
        self.assertEqual(error_of(build_world, more), ("WorldTooLarge", {"limit": 40}))
        # 3 * 13 collections, and 1 more element: exactly 40.
        claim = parse_claim(", ".join([f"a{at}: a" for at in range(12)] + ["b1: b", "b2: b"]) + " |- c")
        self.assertEqual(needed(claim), 40)
        self.check_world(claim, build_world(claim))
        claim = parse_claim(", ".join([f"a{at}: a" for at in range(19)] + ["b1: b"]) + " |- c")
        self.assertEqual(needed(claim), 41)
        self.assertEqual(error_of(build_world, claim), ("WorldTooLarge", {"limit": 40}))

    def test_very_many_collections_are_not_all_found(self):
        holds = ", ".join([f"x{at}: w{at}" for at in range(20)])
        goal = " > ".join([f"v{at}" for at in range(20)])
        claim = parse_claim(holds + " |- " + goal)
        self.assertEqual(error_of(build_world, claim), ("WorldTooLarge", {"limit": 40}))
        self.assertEqual(error_of(build_world, claim, limit=400), ("WorldTooLarge", {"limit": 400}))

    def test_not_once(self):
        for text in ["x [1/0]: a |- a", "x: a, y [2/0]: b |- b", "x: a [1/0] > b |- b", "|- a [1/0] > a",
                     "|- a > (b [1/0] > a) > a", "x: a & (a > b [1/0] > c) |- c"]:
            for limit in (0, 1, 40):
                self.assertEqual(error_of(build_world, parse_claim(text), limit=limit), ("NotOnce", {}))
                self.assertEqual(error_of(build_world, parse_claim(text)), ("NotOnce", {}))

    def test_results_are_new(self):
        claim = parse_claim("f: a > b, x: c |- b")
        check_new(self, lambda: build_world(claim)[1])

    def test_drawn(self):
        source = random.Random(72)
        seen = {"world": 0, "none": 0, "large": 0}
        for _ in range(500):
            names = ["x", "y", "z"][:source.randrange(4)]
            depth = source.choice([1, 2])
            holds = tuple([(name, "once", once_sentence(source, depth, "abc")) for name in names])
            claim = (holds, once_sentence(source, source.choice([0, 1, 2]), "abc"))
            number = needed(claim)
            if number > 40:
                self.assertEqual(error_of(build_world, claim), ("WorldTooLarge", {"limit": 40}))
                seen["large"] += 1
                continue
            self.assertEqual(error_of(build_world, claim, limit=number - 1), ("WorldTooLarge", {"limit": number - 1}))
            found = build_world(claim, limit=number)
            answer = search(Library(), claim)
            if found is None:
                seen["none"] += 1
                self.assertTrue(accepts(Library(), claim, answer.derivation))
                self.assertEqual(doubts(claim), [])
            else:
                seen["world"] += 1
                self.assertTrue(refutes(Library(), answer.table, claim))
                self.check_world(claim, found)
        self.assertGreater(min(seen["world"], seen["none"]), 30)


if __name__ == "__main__":
    unittest.main()
