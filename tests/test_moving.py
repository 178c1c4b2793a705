"""Points 25 and 26: moving derivations to another level, and their free references."""

import copy
import random
import unittest

from helper import check_new, random_derivation, tower
from heldproofs.moving import free_refs, moved
from heldproofs.rows import level_at, part, walk

A = ("word", "a")


def own(ref):
    return ("own", ref)


def pays(refs):
    """A derivation that has all these references, in this order, and brings a hold at each but the last."""
    made = own(refs[-1])
    for ref in reversed(refs[:-1]):
        made = ("pick", ref, "left", made)
    return made


class MovedTest(unittest.TestCase):
    def check(self, refs, old, new, renamed, expected):
        before = copy.deepcopy(renamed)
        self.assertEqual(moved(pays(refs), old, new, renamed), pays(expected))
        self.assertEqual(renamed, before)

    def test_references_at_below_and_above_old(self):
        refs = [0, 1, 2, 3, 4, "x", 3]
        self.check(refs, 3, 5, {}, [0, 1, 2, 5, 6, "x", 5])
        self.check(refs, 3, 1, {}, [0, 1, 2, 1, 2, "x", 1])
        self.check(refs, 3, 3, {}, refs)
        self.check(refs, 0, 0, {}, refs)
        self.check(refs, 0, 7, {}, [7, 8, 9, 10, 11, "x", 10])
        self.check(refs, 2, 0, {}, [0, 1, 0, 1, 2, "x", 1])
        self.check(refs, 10 ** 12, 0, {}, refs)

    def test_names_and_levels_are_renamed(self):
        refs = ["x", "y", 0, 1, 2, 3]
        self.check(refs, 2, 4, {"x": "z"}, ["z", "y", 0, 1, 4, 5])
        self.check(refs, 2, 4, {"x": 1, 0: "x"}, [1, "y", "x", 1, 4, 5])
        self.check(refs, 2, 4, {0: 9, "y": 100}, ["x", 100, 9, 1, 4, 5])
        self.check(refs, 2, 4, {"other": "x", 7: 8}, ["x", "y", 0, 1, 4, 5])

    def test_references_from_old_on_are_not_renamed(self):
        self.check([0, 1, 2, 3], 2, 4, {2: 0, 3: "x", 4: 1, 5: 1}, [0, 1, 4, 5])
        self.check([0, 1, 2, 3], 2, 2, {2: 0, 3: 1}, [0, 1, 2, 3])

    def test_values_are_taken_as_they_are(self):
        # Neither moved, though they may be at least old, nor renamed again.
        self.check(["x", 0, 5], 1, 3, {"x": 1, 0: 5}, [1, 5, 7])
        self.check(["x", "y", "z"], 1, 3, {"x": "y", "y": "z"}, ["y", "z", "z"])
        self.check([0, 1, 2, 3, 4], 3, 6, {0: 1, 1: 2, 2: 3}, [1, 2, 3, 6, 7])

    def test_rings(self):
        self.check([0, 1, "x", "y", 2], 2, 2, {0: 1, 1: 0, "x": "y", "y": "x"}, [1, 0, "y", "x", 2])
        self.check([0, 1, "x", 2], 2, 3, {0: "x", "x": 1, 1: 0}, ["x", 0, 1, 3])
        self.check([0, "x"], 1, 0, {0: 0, "x": "x"}, [0, "x"])

    def test_all_rows(self):
        renamed = {"x": "z", 0: 5}
        before = ("cut", (2, 1), A, ("offer", ("take", own(2)), ("make", "x", 0, own("x"))),
                  ("pay", 2, "once", ("open", 0, "x", 1, own(3)), ("pick", "x", "right", ("cite", "x"))))
        after = ("cut", (2, 1), A, ("offer", ("take", own(1)), ("make", "x", 0, own("z"))),
                 ("pay", 1, "once", ("open", 5, "x", 1, own(2)), ("pick", "z", "right", ("cite", "x"))))
        self.assertEqual(moved(before, 2, 1, renamed), after)
        self.assertEqual(renamed, {"x": "z", 0: 5})

    def test_indexes_kinds_and_sentences_are_no_references(self):
        sentence = ("trade", (3, 4), ("word", "x"), ("word", "y"))
        row = ("cut", (3, 4), sentence, ("make", "x", 3, ("cite", "y")), ("pay", "f", (3, 4), own("g"), own("h")))
        self.assertEqual(moved(row, 0, 9, {"x": 1, "y": "z"}), row)

    def test_there_and_back(self):
        source = random.Random(25)
        for _ in range(200):
            derivation = random_derivation(source, 5, 3)
            there = moved(derivation, 3, 8, {0: "p", 1: 2, 2: 1, "x": 0})
            self.assertEqual(moved(there, 8, 3, {"p": 0, 2: 1, 1: 2, 0: "x"}), derivation)
            self.assertEqual([name for path, name in walk(there)], [name for path, name in walk(derivation)])
            self.assertEqual(moved(derivation, 3, 3, {}), derivation)

    def test_nested_deep(self):
        for derivation in tower(200):
            self.assertEqual(moved(moved(derivation, 0, 5, {"x": "q"}), 5, 0, {"q": "x"}), derivation)


class FreeRefsTest(unittest.TestCase):
    def test_own(self):
        for ref, level, expected in [("x", 0, ["x"]), (0, 0, []), (0, 1, [0]), (1, 1, []), (0, 5, [0]), (4, 5, [4]),
                                     (5, 5, []), (6, 5, [])]:
            self.assertEqual(free_refs(own(ref), level), expected)

    def test_the_order_of_first_occurrence(self):
        row = ("pay", "f", "once", ("offer", own("s"), own(1)), ("pick", 0, "left", ("pay", 2, "once", own("f"),
               ("open", "r", "w", 0, own(1)))))
        self.assertEqual(free_refs(row, 2), ["f", "s", 1, 0, "r"])
        self.assertEqual(free_refs(row, 1), ["f", "s", 0, "r"])
        self.assertEqual(free_refs(row, 0), ["f", "s", "r"])
        self.assertEqual(free_refs(row, 9), ["f", "s", 1, 0, 2, "r"])

    def test_names_and_levels_differ(self):
        self.assertEqual(free_refs(("offer", own(0), ("offer", own("x"), own(0))), 1), [0, "x"])

    def test_cites_and_names_of_words_are_no_references(self):
        self.assertEqual(free_refs(("make", "w", 0, ("cite", "e")), 3), [])

    def test_the_list_is_new(self):
        for derivation in [own("x"), ("cite", "e"), ("offer", own("x"), own("y"))]:
            check_new(self, free_refs, derivation, 0)

    def test_against_the_definition(self):
        source = random.Random(26)
        for _ in range(200):
            level = source.randrange(4)
            derivation = random_derivation(source, 5, level)
            expected = []
            for path, name in walk(derivation):
                row = part(derivation, path)
                if name in ("own", "pick", "pay", "open") and row[1] not in expected:
                    if isinstance(row[1], str) or row[1] < level:
                        expected.append(row[1])
                    else:
                        self.assertLess(row[1], level + level_at(derivation, path))
            self.assertEqual(free_refs(derivation, level), expected)


if __name__ == "__main__":
    unittest.main()
