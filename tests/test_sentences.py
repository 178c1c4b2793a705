"""Points 9 to 12: sentences."""

import random
import unittest

from heldproofs.errors import BadKind, BadName
from heldproofs.sentences import legs, menu, size, trade, word, words_in
from helper import check_new, holds_no_list, random_sentence

A, B, C, D = ("word", "a"), ("word", "b"), ("word", "c"), ("word", "d")


class BuildingTest(unittest.TestCase):
    def test_tuples(self):
        self.assertEqual(word("a"), ("word", "a"))
        self.assertEqual(menu(A, B), ("menu", A, B))
        self.assertEqual(trade(A, B), ("trade", "once", A, B))
        self.assertEqual(trade(A, B, kind="once"), ("trade", "once", A, B))
        self.assertEqual(trade(A, B, kind=(2, 1)), ("trade", (2, 1), A, B))

    def test_names(self):
        for name in ["a", "z", "a0", "z9", "ab", "own", "left", "once", "abcdefghijkl",
                     "a12345678901", "zzzzzzzzzzzz"]:
            self.assertEqual(word(name), ("word", name))

    def test_strings_that_are_no_names(self):
        for name in ["", "abcdefghijklm", "a123456789012", "0", "0a", "9", "A", "Ab", "aB", "a_",
                     "_a", "a b", " a", "a ", " ", "a-b", "a&", "#0", "a.", "`", "{", "a{", "a`",
                     "a/", "a:", "\u00e9", "a\u00e9", "\u00b2", "a\u00b2", "a\u0661", "a\n"]:
            with self.assertRaises(BadName) as caught:
                word(name)
            self.assertEqual(caught.exception.name, name)

    def test_values_that_are_no_kinds(self):
        for kind in ["twice", "", None, True, 1, (0, 0), (1, -1), (1,), (1, 0, 0), [1, 0],
                     (True, 0), (1, False), ("1", 0), ((1, 0), 0), 10 ** 6000]:
            with self.assertRaises(BadKind) as caught:
                trade(A, B, kind=kind)
            self.assertIs(caught.exception.kind, kind)

    def test_kind_is_passed_by_keyword_only(self):
        with self.assertRaises(TypeError):
            trade(A, B, "once")


class LookingTest(unittest.TestCase):
    def test_size_counts_repetition(self):
        self.assertEqual(size(A), 1)
        self.assertEqual(size(menu(A, A)), 2)
        self.assertEqual(size(trade(menu(A, B), trade(A, A), kind=(2, 1))), 4)

    def test_words_in_from_left_to_right(self):
        self.assertEqual(words_in(C), ["c"])
        self.assertEqual(words_in(menu(B, A)), ["b", "a"])
        self.assertEqual(words_in(trade(C, A)), ["c", "a"])
        self.assertEqual(words_in(trade(menu(D, B), trade(B, menu(A, D)))), ["d", "b", "a"])
        self.assertEqual(words_in(menu(trade(B, A), trade(A, C))), ["b", "a", "c"])

    def test_legs_of_a_word(self):
        self.assertEqual(legs(A), [([], "a")])

    def test_legs_of_a_menu(self):
        self.assertEqual(legs(menu(menu(B, A), A)), [([], "b"), ([], "a"), ([], "a")])

    def test_legs_of_a_trade(self):
        nested = trade(A, trade(menu(B, B), C, kind=(2, 0)), kind=(3, 1))
        self.assertEqual(legs(nested), [([((3, 1), A), ((2, 0), menu(B, B))], "c")])
        self.assertEqual(legs(trade(trade(A, B), C)), [([("once", trade(A, B))], "c")])

    def test_legs_of_a_trade_for_a_menu(self):
        goods = menu(trade(B, C), D)
        self.assertEqual(legs(trade(A, goods)), [([("once", A), ("once", B)], "c"), ([("once", A)], "d")])

    def test_example_of_the_interface(self):
        made = trade(word("a"), menu(word("b"), word("c")), kind=(2, 1))
        self.assertEqual(legs(made), [([((2, 1), ("word", "a"))], "b"), ([((2, 1), ("word", "a"))], "c")])

    def test_against_the_definition(self):
        def count(sentence):
            if sentence[0] == "word":
                return 1
            if sentence[0] == "menu":
                return count(sentence[1]) + count(sentence[2])
            return count(sentence[3])

        source = random.Random(12)
        for _ in range(200):
            sentence = random_sentence(source, 4)
            found = legs(sentence)
            self.assertEqual(len(found), count(sentence))
            for prices, name in found:
                self.assertIs(type(prices), list)
                self.assertIn(name, words_in(sentence))
                self.assertTrue(all(type(pair) is tuple for pair in prices))
            self.assertEqual(len(words_in(sentence)), len(set(words_in(sentence))))
            self.assertTrue(holds_no_list(sentence))

    def test_told_lists_are_new(self):
        same = trade(A, menu(B, B))
        for sentence in [A, menu(A, A), menu(same, same), trade(same, menu(same, same), kind=(2, 1))]:
            check_new(self, legs, sentence)
            check_new(self, words_in, sentence)


class LimitsTest(unittest.TestCase):
    """The limits of point 3, and somewhat beyond."""

    def test_menus_nested_deep(self):
        for depth in (60, 149):
            left = right = A
            for _ in range(depth):
                left, right = menu(left, B), menu(B, right)
            self.assertEqual(size(left), depth + 1)
            self.assertEqual(words_in(left), ["a", "b"])
            self.assertEqual(words_in(right), ["b", "a"])
            self.assertEqual(legs(left), [([], "a")] + [([], "b")] * depth)
            self.assertEqual(legs(right), [([], "b")] * depth + [([], "a")])

    def test_trades_nested_deep(self):
        for depth in (60, 149):
            chain = tower = A
            for _ in range(depth):
                chain, tower = trade(B, chain, kind=(2, 1)), trade(tower, B)
            self.assertEqual(size(chain), depth + 1)
            self.assertEqual(legs(chain), [([((2, 1), B)] * depth, "a")])
            self.assertEqual(words_in(tower), ["a", "b"])
            self.assertEqual(legs(tower), [([("once", tower[2])], "b")])

    def test_many_words_and_many_legs(self):
        names = ["w" + str(index) for index in range(150)]
        made = word(names[0])
        for name in names[1:]:
            made = menu(made, word(name))
        self.assertEqual(size(made), 150)
        self.assertEqual(words_in(made), names)
        many = made
        for _ in range(60):
            many = trade(A, many)
        self.assertEqual([name for prices, name in legs(many)], names)
        self.assertTrue(all(len(prices) == 60 for prices, name in legs(many)))


if __name__ == "__main__":
    unittest.main()
