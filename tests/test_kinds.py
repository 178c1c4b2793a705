"""Points 4 to 8: kinds."""

import unittest

from heldproofs.errors import BadKind
from heldproofs.kinds import covers, is_kind, nested, pooled

KINDS = ["once"] + [(uses, days) for uses in (1, 2, 3) for days in (0, 1, 2)]


class IsKindTest(unittest.TestCase):
    def test_kinds(self):
        for value in ["once", (1, 0), (1, 1), (2, 0), (400, 100), (999999999, 999999999),
                      (10 ** 6000, 10 ** 6000)]:
            self.assertIs(is_kind(value), True)

    def test_uses_below_one_and_days_below_zero(self):
        for value in [(0, 0), (0, 5), (-1, 0), (1, -1), (5, -1), (0, -1), (-3, -3)]:
            self.assertIs(is_kind(value), False, value)

    def test_texts(self):
        for value in ["", "Once", "once ", " once", "onc", "twice", "[1/0]", "12", b"once"]:
            self.assertIs(is_kind(value), False, value)

    def test_values_that_are_no_tuples(self):
        for value in [None, True, False, 0, 1, 2, -1, 1.5, 1j, [1, 0], ["once"], [], {}, {1: 0},
                      {1, 0}, frozenset([1, 2]), object(), is_kind, int, range(1, 3), ...]:
            self.assertIs(is_kind(value), False, value)

    def test_tuples_of_another_length(self):
        for value in [(), (1,), (1, 0, 0), (1, 0, 0, 0), ("once",), ("once", "once", "once")]:
            self.assertIs(is_kind(value), False, value)

    def test_tuples_of_other_things(self):
        for wrong in [True, False, "1", "once", "", None, 1.0, (1, 0), (), [1], {}, b"1"]:
            self.assertIs(is_kind((wrong, 0)), False, wrong)
            self.assertIs(is_kind((1, wrong)), False, wrong)
            self.assertIs(is_kind((wrong, wrong)), False, wrong)


class NestedTest(unittest.TestCase):
    def test_once_outside(self):
        for kind in KINDS:
            self.assertEqual(nested("once", kind), kind)

    def test_once_inside(self):
        for kind in KINDS:
            self.assertEqual(nested(kind, "once"), kind)

    def test_uses_multiply_and_days_add(self):
        self.assertEqual(nested((2, 3), (5, 7)), (10, 10))
        self.assertEqual(nested((1, 0), (1, 0)), (1, 0))
        self.assertEqual(nested((400, 100), (400, 100)), (160000, 200))
        self.assertEqual(nested((999999999, 999999999), (2, 1)), (1999999998, 1000000000))

    def test_results_are_kinds_and_packing_is_associative(self):
        for a in KINDS:
            for b in KINDS:
                self.assertTrue(is_kind(nested(a, b)))
                for c in KINDS:
                    self.assertEqual(nested(nested(a, b), c), nested(a, nested(b, c)))


class PooledTest(unittest.TestCase):
    def test_uses_add_and_the_greater_days_stay(self):
        self.assertEqual(pooled((2, 3), (5, 7)), (7, 7))
        self.assertEqual(pooled((2, 7), (5, 3)), (7, 7))
        self.assertEqual(pooled((1, 0), (1, 0)), (2, 0))

    def test_once_in_either_order(self):
        for first, second in [("once", (2, 1)), ((2, 1), "once"), ("once", "once")]:
            with self.assertRaises(BadKind) as caught:
                pooled(first, second)
            self.assertEqual(caught.exception.kind, "once")


class CoversTest(unittest.TestCase):
    def test_once_covers_only_once(self):
        for kind in KINDS:
            self.assertIs(covers("once", kind), kind == "once")

    def test_stock_covers_once(self):
        for room in KINDS:
            self.assertIs(covers(room, "once"), True)

    def test_stock_covers_less_uses_and_less_days(self):
        self.assertIs(covers((2, 1), (2, 1)), True)
        self.assertIs(covers((3, 1), (2, 1)), True)
        self.assertIs(covers((2, 2), (2, 1)), True)
        self.assertIs(covers((1, 1), (2, 1)), False)
        self.assertIs(covers((2, 0), (2, 1)), False)
        self.assertIs(covers((1, 9), (2, 1)), False)
        self.assertIs(covers((9, 0), (2, 1)), False)


if __name__ == "__main__":
    unittest.main()
