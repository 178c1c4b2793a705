"""Points 20 to 22: derivations, their places and their rows."""

import random
import types
import unittest

from helper import check_new, error_of, holds_no_list, random_derivation, tower
from heldproofs.rows import cut_paths, is_bare, level_at, part, premises, row_count, walk, with_part

A = ("word", "a")
X, Y, Z = ("own", "x"), ("own", "y"), ("own", 0)
NEW = ("cite", "new")

# Each row with the names of its premises: does the new hold come into it?
ALL_ROWS = [
    (X, []),
    (("own", 3), []),
    (("take", X), [(X, 1)]),
    (("offer", X, Y), [(X, 0), (Y, 0)]),
    (("pick", "x", "left", Y), [(Y, 1)]),
    (("pick", 2, "right", Y), [(Y, 1)]),
    (("pay", "x", "once", X, Y), [(X, 0), (Y, 1)]),
    (("pay", 1, (2, 1), X, Y), [(X, 0), (Y, 1)]),
    (("make", "w", 0, X), [(X, 0)]),
    (("open", "x", "w", 1, X), [(X, 1)]),
    (("cut", "once", A, X, Y), [(X, 0), (Y, 1)]),
    (("cut", (1, 0), A, X, Y), [(X, 0), (Y, 1)]),
    (("cite", "e"), []),
]

# Three cuts, in source, in body and at the root, and a cite.
CUTS = ("cut", "once", A,
        ("offer", ("cut", (2, 0), A, X, Z), ("cite", "e")),
        ("pay", 0, "once", ("take", ("cut", "once", A, Y, ("own", 2))), ("pick", 1, "left", ("own", 2))))

CUTS_WALK = [
    ((), "cut"),
    ((0,), "offer"), ((0, 0), "cut"), ((0, 0, 0), "own"), ((0, 0, 1), "own"), ((0, 1), "cite"),
    ((1,), "pay"), ((1, 0), "take"), ((1, 0, 0), "cut"), ((1, 0, 0, 0), "own"), ((1, 0, 0, 1), "own"),
    ((1, 1), "pick"), ((1, 1, 0), "own"),
]


def premises_of(row):
    """The premises by their look: rows begin with a name, kinds and sentences do not with these."""
    return [item for item in row[1:] if isinstance(item, tuple) and item[0] in (
        "own", "take", "offer", "pick", "pay", "make", "open", "cut", "cite")]


def places(row, path=(), level=0):
    """All places of a derivation with their paths, their parts and their levels, in preorder."""
    found = [(path, row, level)]
    above = premises_of(row)
    for index, premise in enumerate(above):
        brings = row[0] in ("take", "pick", "pay", "open", "cut") and index == len(above) - 1
        found += places(premise, path + (index,), level + 1 if brings else level)
    return found


class PremisesTest(unittest.TestCase):
    def test_all_rows(self):
        for row, expected in ALL_ROWS:
            self.assertEqual(premises(row), [premise for premise, more in expected])

    def test_the_list_is_new(self):
        for row, expected in ALL_ROWS:
            check_new(self, premises, row)


class PlacesTest(unittest.TestCase):
    def test_all_rows(self):
        for row, expected in ALL_ROWS:
            self.assertEqual(part(row, ()), row)
            self.assertEqual(level_at(row, ()), 0)
            self.assertEqual(with_part(row, (), NEW), NEW)
            for index, (premise, level) in enumerate(expected):
                self.assertEqual(part(row, (index,)), premise)
                self.assertEqual(level_at(row, (index,)), level)
                changed = with_part(row, (index,), NEW)
                before = [premise for premise, more in expected]
                before[index] = NEW
                self.assertEqual(changed, row[:len(row) - len(expected)] + tuple(before))

    def test_each_path(self):
        source = random.Random(21)
        for _ in range(100):
            derivation = random_derivation(source, 5)
            for path, inner, level in places(derivation):
                self.assertEqual(part(derivation, path), inner)
                self.assertEqual(level_at(derivation, path), level)
                self.assertEqual(with_part(derivation, path, inner), derivation)
                changed = with_part(derivation, path, NEW)
                self.assertEqual(part(changed, path), NEW)
                self.assertTrue(holds_no_list(changed))
                for other, same, level in places(derivation):
                    apart = other[:len(path)] != path and path[:len(other)] != other
                    if apart:
                        self.assertEqual(part(changed, other), same)

    def test_levels_count_the_holds_brought_into_the_place(self):
        self.assertEqual(level_at(CUTS, (0, 0, 0)), 0)
        self.assertEqual(level_at(CUTS, (0, 0, 1)), 1)
        self.assertEqual(level_at(CUTS, (1,)), 1)
        self.assertEqual(level_at(CUTS, (1, 0, 0, 1)), 3)
        self.assertEqual(level_at(CUTS, (1, 0, 0, 0)), 2)
        self.assertEqual(level_at(CUTS, (1, 1, 0)), 3)

    def no_part(self, derivation, path):
        for call, told in [(part, ()), (with_part, (NEW,)), (level_at, ())]:
            self.assertEqual(error_of(call, derivation, path, *told), ("NoPart", {"path": path}))

    def test_no_such_place(self):
        for row, expected in ALL_ROWS:
            for index in [len(expected), len(expected) + 1, -1, -len(expected) - 1, 10 ** 30, -10 ** 30]:
                self.no_part(row, (index,))
                self.no_part(row, (index, 0))
                self.no_part(row, (index, -1, 7, 10 ** 30))

    def test_no_such_place_further_up(self):
        for path in [(2,), (1, 2), (1, -1), (1, 0, 1), (0, 1, 0), (0, 0, 0, 0), (1, 0, 0, 2, 0), (1, 1, 0, 0, 1),
                     (-1, 0, 0), (0, -2), (10 ** 30, 0), (1, 1, 10 ** 30, 0, 1)]:
            self.no_part(CUTS, path)


class RowsTest(unittest.TestCase):
    def test_row_count(self):
        for row, expected in ALL_ROWS:
            self.assertEqual(row_count(row), 1 + len(expected))
        self.assertEqual(row_count(CUTS), 13)

    def test_walk(self):
        self.assertEqual(list(walk(CUTS)), CUTS_WALK)
        self.assertEqual(list(walk(X)), [((), "own")])
        self.assertIsInstance(walk(X), types.GeneratorType)

    def test_walk_is_preorder(self):
        source = random.Random(22)
        for _ in range(100):
            derivation = random_derivation(source, 5)
            expected = [(path, inner[0]) for path, inner, level in places(derivation)]
            self.assertEqual(list(walk(derivation)), expected)
            self.assertEqual(row_count(derivation), len(expected))
            self.assertEqual(cut_paths(derivation), [path for path, name in expected if name == "cut"])
            self.assertEqual(is_bare(derivation), not {"cut", "cite"} & {name for path, name in expected})

    def test_cut_paths(self):
        self.assertEqual(cut_paths(CUTS), [(), (0, 0), (1, 0, 0)])
        self.assertEqual(cut_paths(("take", NEW)), [])
        check_new(self, cut_paths, CUTS)

    def test_is_bare(self):
        for row, expected in ALL_ROWS:
            self.assertIs(is_bare(row), row[0] not in ("cut", "cite"))
            for index in range(len(expected)):
                self.assertIs(is_bare(with_part(row, (index,), NEW)), False)
                self.assertIs(is_bare(with_part(row, (index,), ("cut", "once", A, X, Z))), False)
        self.assertIs(is_bare(("own", "cut")), True)
        self.assertIs(is_bare(("pick", "cite", "left", ("make", "cut", 0, X))), True)


class LimitsTest(unittest.TestCase):
    def test_nested_deep(self):
        for depth in (60, 150, 200):
            for derivation in tower(depth):
                found = list(walk(derivation))
                deepest = max([path for path, name in found], key=len)
                self.assertEqual(len(deepest), depth - 1)
                self.assertEqual(row_count(derivation), len(found))
                self.assertEqual(part(derivation, deepest)[0], "own")
                self.assertEqual(part(with_part(derivation, deepest, NEW), deepest), NEW)
                self.assertEqual(is_bare(derivation), derivation[0] != "cut")
                self.assertEqual(error_of(part, derivation, deepest + (0,)), ("NoPart", {"path": deepest + (0,)}))
        self.assertEqual(level_at(tower(60)[0], (0,) * 59), 59)
        self.assertEqual(level_at(tower(60)[2], (0,) * 59), 0)

    def test_400_rows(self):
        row = X
        for _ in range(133):
            row = ("pay", "f", "once", ("make", "w", 0, Y), row)
        self.assertEqual(row_count(row), 400)
        self.assertEqual(len(list(walk(row))), 400)


if __name__ == "__main__":
    unittest.main()
