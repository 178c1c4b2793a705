"""Points 70 and 71: worlds."""

import copy
import random
import unittest

from drawing import draw_claim
from helper import error_of
from heldproofs.claimtext import parse_claim
from heldproofs.errors import NotOnce
from heldproofs.sentencetext import parse_sentence
from heldproofs.worlds import World
from plainclaims import plain_fails, plain_fault_of_world, plain_has

# Sums up to 3, and what is beyond.
SUMS = [[min(a + b, 3) for b in range(4)] for a in range(4)]
# Sums around 3.
AROUND = [[(a + b) % 3 for b in range(3)] for a in range(3)]


def once_sentence(source, depth, words="ab"):
    shape = source.choice(["word", "menu", "trade", "trade"]) if depth else "word"
    if shape == "word":
        return ("word", source.choice(words))
    parts = (once_sentence(source, depth - 1, words), once_sentence(source, depth - 1, words))
    return ("menu",) + parts if shape == "menu" else ("trade", "once") + parts


class ConstructorTest(unittest.TestCase):
    def check(self, products, facts, reason):
        before = copy.deepcopy((products, facts))
        found = error_of(World, products, facts)
        self.assertEqual(found, reason and ("BadWorld", {"reason": reason}))
        self.assertEqual((products, facts), before)
        self.assertEqual(plain_fault_of_world(products, facts), reason)

    def test_right_ones(self):
        for products in [[[0]], [[0, 1], [1, 0]], [[0, 1], [1, 1]], SUMS, AROUND]:
            for facts in [{}, {"a": []}, {"a": [0]}, {"a": [len(products) - 1, 0, 0], "b": [0]}]:
                self.check(products, facts, None)
                self.assertEqual(len(World(products, facts)), len(products))
        self.assertEqual(len(World([list(row) for row in SUMS], {})), 4)

    def test_shape(self):
        for products in [[], [[]], [[0, 1]], [[0], [1]], [[0, 1], [1]], [[0, 1], [1, 0, 0]], [[1]], [[-1]],
                         [[0, 1], [1, 2]], [[0, 1], [1, -1]], [[0, 1], [1, -2]], [[0], []], [[0, 1, 2], [1, 2, 0]]]:
            self.check(products, {}, "shape")
            self.check(products, {"a": [7]}, "shape")

    def test_unit(self):
        for products in [[[1, 0], [0, 1]], [[0, 0], [0, 0]], [[0, 0], [1, 1]], [[0, 2, 1], [2, 1, 0], [1, 0, 2]]]:
            self.check(products, {}, "unit")
            self.check(products, {"a": [-1]}, "unit")

    def test_order(self):
        for products in [[[0, 1], [0, 1]], [[0, 1], [0, 0]], [[0, 1, 2], [1, 1, 1], [2, 2, 2]],
                         [[0, 1, 2], [1, 0, 0], [2, 1, 0]], [[0, 1, 2], [1, 1, 2], [2, 0, 2]]]:
            self.check(products, {}, "order")
            self.check(products, {"a": [3]}, "order")

    def test_grouping(self):
        for products in [[[0, 1, 2], [1, 0, 1], [2, 1, 1]], [[0, 1, 2], [1, 2, 0], [2, 0, 2]],
                         [[0, 1, 2, 3], [1, 2, 2, 1], [2, 2, 3, 3], [3, 1, 3, 3]]]:
            self.check(products, {}, "grouping")
            self.check(products, {"a": [4]}, "grouping")

    def test_fact(self):
        for facts in [{"a": [2]}, {"a": [-1]}, {"a": [0, 1, 2]}, {"a": [0], "b": [1, -2]}, {"b": [9], "a": []}]:
            self.check([[0, 1], [1, 1]], facts, "fact")

    def test_drawn(self):
        source = random.Random(70)
        seen = {}
        for _ in range(4000):
            many = source.choice([1, 2, 2, 3])
            products = [[source.randrange(many) for _ in range(many)] for _ in range(many)]
            if source.random() < 0.8:
                products[0] = list(range(many))
                for a in range(many):
                    for b in range(a):
                        products[a][b] = products[b][a]
            facts = {name: [source.randrange(-1, many + 1) for _ in range(source.randrange(2))] for name in "ab"}
            reason = plain_fault_of_world(products, facts)
            self.check(products, facts, reason)
            seen[reason] = seen.get(reason, 0) + 1
        self.assertGreater(min(seen.values()), 50)
        self.assertEqual(len(seen), 5)

    def test_what_the_caller_changes_later(self):
        products, facts = copy.deepcopy(SUMS), {"a": [1], "b": [2]}
        world = World(products, facts)
        products[1][1] = 0
        products.append([])
        facts["a"].append(0)
        facts["c"] = [0]
        del facts["b"]
        self.assertEqual((len(world), world.product(1, 1)), (4, 2))
        self.assertEqual([world.has(at, ("word", "a")) for at in range(4)], [False, True, False, False])
        self.assertTrue(world.has(2, ("word", "b")))
        self.assertFalse(world.has(0, ("word", "c")))

    def test_large(self):
        rows = [[min(a + b, 39) for b in range(40)] for a in range(40)]
        world = World(rows, {"a": list(range(1, 40))})
        sentence = parse_sentence("a")
        for depth in range(60):
            # a is true everywhere but at 0; a trade for that is true everywhere, a trade for this is not.
            self.assertEqual([world.has(at, sentence) for at in (0, 1, 39)], [depth % 2 == 1, True, True])
            sentence = ("trade", "once", sentence, ("menu", ("word", "a"), ("word", "a")))
        self.assertEqual((len(world), world.product(20, 18), world.product(20, 30)), (40, 38, 39))


class HasTest(unittest.TestCase):
    def setUp(self):
        self.world = World(SUMS, {"a": [1], "b": [2, 3], "all": [0, 1, 2, 3]})

    def places(self, text):
        found = []
        for element in range(4):
            found.append(self.world.has(element, parse_sentence(text)))
            self.assertIn(type(found[-1]), (bool,))
        return [element for element in range(4) if found[element]]

    def test_product(self):
        for a in range(4):
            for b in range(4):
                self.assertEqual(self.world.product(a, b), min(a + b, 3))

    def test_each_sentence(self):
        for text, expected in [
            ("a", [1]), ("b", [2, 3]), ("none", []), ("all", [0, 1, 2, 3]), ("a & b", []), ("b & all", [2, 3]),
            ("all & a", [1]), ("b & b", [2, 3]), ("a > b", [1, 2, 3]), ("b > a", []), ("b > b", [0, 1, 2, 3]),
            ("a > a", [0]), ("none > a", [0, 1, 2, 3]), ("all > b", [2, 3]), ("all > all", [0, 1, 2, 3]),
            ("a > a > b", [0, 1, 2, 3]), ("(a > b) > b", [1, 2, 3]), ("a & b > none", [0, 1, 2, 3]),
            ("(a > b) & (all > b)", [2, 3]), ("(a > a) > a", [1]), ("a > b & all", [1, 2, 3]),
        ]:
            self.assertEqual(self.places(text), expected, text)

    def test_not_once(self):
        for text in ["a [1/0] > b", "c & (a [1/0] > b)", "none > a [2/1] > a", "(a [1/0] > b) > a",
                     "none & (none > a [2/1] > a)", "a > a > a > a [400/100] > a"]:
            for element in range(4):
                self.assertEqual(error_of(self.world.has, element, parse_sentence(text)), ("NotOnce", {}))

    def test_drawn(self):
        source = random.Random(71)
        for _ in range(200):
            products = source.choice([SUMS, AROUND, [[0]], [[0, 1], [1, 1]]])
            facts = {name: [at for at in range(len(products)) if source.random() < 0.5] for name in "ab"}
            world = World(products, facts)
            sentence = once_sentence(source, 3, "abc")
            for element in range(len(products)):
                self.assertEqual(world.has(element, sentence), plain_has(products, facts, element, sentence))


class FailsTest(unittest.TestCase):
    def test_claims(self):
        world = World(SUMS, {"a": [1], "b": [2, 3], "all": [0, 1, 2, 3]})
        for text, places, expected in [
            ("|- a", [], True), ("|- all", [], False), ("|- a > a", [], False), ("|- a > b", [], True),
            ("x: a |- a", [1], False), ("x: a |- b", [1], True), ("x: a |- b", [2], False), ("x: a |- b", [0], False),
            ("x: a, y: a |- b", [1, 1], False), ("x: a, y: a |- a", [1, 1], True), ("x: a, y: a |- a", [1, 0], False),
            ("x: b, y: a |- a", [2, 1], True), ("x: a, y: b |- a", [2, 1], False), ("x: all |- a", [0], True),
            ("x: all |- a", [1], False), ("x: a > b, y: a |- b", [1, 1], False), ("x: all, y: all, z: all |- a", [1, 1, 1], True),
        ]:
            found = world.fails(parse_claim(text), places)
            self.assertIs(found, expected, (text, places))
            self.assertEqual(plain_fails(SUMS, {"a": [1], "b": [2, 3], "all": [0, 1, 2, 3]}, parse_claim(text), places),
                             expected)

    def test_not_once(self):
        world = World(SUMS, {"a": [0]})
        for text, places in [
            ("x [1/0]: a |- a", [0]), ("x: b, y [1/0]: a |- a", [0, 0]), ("x: b [1/0] > a |- a", [0]),
            ("|- b [1/0] > a", []), ("x: b |- a > b [1/0] > a", [3]), ("x: a, y: a & (a > a [1/0] > a) |- a", [0, 0]),
        ]:
            self.assertEqual(error_of(world.fails, parse_claim(text), places), ("NotOnce", {}))
        self.assertEqual(error_of(World([[0]], {}).fails, parse_claim("x: b, y [1/0]: a |- a"), [0, 0]), ("NotOnce", {}))
        self.assertTrue(issubclass(NotOnce, ValueError))

    def test_places_stay_as_they_are(self):
        places = [1, 1]
        World(SUMS, {"a": [1]}).fails(parse_claim("x: a, y: a |- a"), places)
        self.assertEqual(places, [1, 1])

    def test_drawn(self):
        source = random.Random(72)
        seen = {True: 0, False: 0}
        for _ in range(1500):
            products = source.choice([SUMS, AROUND, [[0]], [[0, 1], [1, 1]]])
            facts = {name: [at for at in range(len(products)) if source.random() < 0.6] for name in "ab"}
            names = ["x", "y", "z"][:source.randrange(4)]
            claim = (tuple([(name, "once", once_sentence(source, 2)) for name in names]), once_sentence(source, 2))
            places = [source.randrange(len(products)) for _ in names]
            found = World(products, facts).fails(claim, places)
            self.assertEqual(found, plain_fails(products, facts, claim, places))
            seen[found] += 1
        self.assertGreater(min(seen.values()), 200)

    def test_not_once_in_drawn_claims(self):
        source = random.Random(73)
        world = World(SUMS, {"a": [0, 1]})
        for _ in range(200):
            claim = draw_claim(source, 3, 2, "ab")
            places = [source.randrange(4) for _ in claim[0]]
            once = "[" not in str(claim) and "(1, " not in str(claim) and "(2, " not in str(claim) and "(3, " not in str(claim)
            error = error_of(world.fails, claim, places)
            self.assertEqual(error, None if once else ("NotOnce", {}))


if __name__ == "__main__":
    unittest.main()
