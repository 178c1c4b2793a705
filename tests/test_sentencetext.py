"""Points 13 to 15: the texts of sentences."""

import itertools
import random
import unittest

from grammar import begins_sentence, is_sentence
from helper import error_of, holds_no_list, least_fault, random_sentence, scattered
from heldproofs.sentences import menu, trade, word
from heldproofs.sentencetext import format_sentence, parse_sentence

A, B, C, D = ("word", "a"), ("word", "b"), ("word", "c"), ("word", "d")


class TextTest(unittest.TestCase):
    def fails(self, text, index):
        self.assertEqual(error_of(parse_sentence, text), ("TextError", {"index": index}), text)


class FormatTest(TextTest):
    def test_where_parentheses_stand(self):
        sale = trade(A, B)
        for sentence, text in [
            (A, "a"),
            (menu(A, B), "a & b"),
            (menu(menu(A, B), C), "a & b & c"),
            (menu(A, menu(B, C)), "a & (b & c)"),
            (menu(menu(A, B), menu(C, D)), "a & b & (c & d)"),
            (menu(sale, C), "(a > b) & c"),
            (menu(C, sale), "c & (a > b)"),
            (menu(sale, sale), "(a > b) & (a > b)"),
            (menu(menu(A, sale), C), "a & (a > b) & c"),
            (sale, "a > b"),
            (trade(A, trade(B, C)), "a > b > c"),
            (trade(sale, C), "(a > b) > c"),
            (trade(trade(sale, C), D), "((a > b) > c) > d"),
            (trade(menu(A, B), menu(C, D)), "a & b > c & d"),
            (trade(menu(A, menu(B, C)), D), "a & (b & c) > d"),
            (trade(menu(sale, C), D), "(a > b) & c > d"),
            (trade(A, B, kind=(2, 1)), "a [2/1] > b"),
            (trade(sale, trade(B, C, kind=(3, 0)), kind=(10, 999999999)),
             "(a > b) [10/999999999] > b [3/0] > c"),
            (menu(trade(A, B, kind=(1, 0)), C), "(a [1/0] > b) & c"),
        ]:
            self.assertEqual(format_sentence(sentence), text)
            self.assertEqual(parse_sentence(text), sentence)

    def test_example_of_the_interface(self):
        self.assertEqual(format_sentence(parse_sentence("(a & (b)) > c & d")), "a & b > c & d")

    def test_format_and_parse_are_inverse(self):
        source = random.Random(13)
        for _ in range(500):
            sentence = random_sentence(source, 5)
            text = format_sentence(sentence)
            self.assertEqual(parse_sentence(text), sentence)
            self.assertEqual(parse_sentence(scattered(source, text)), sentence)
            self.assertTrue(is_sentence(text))
            self.assertTrue(holds_no_list(parse_sentence(text)))


class ParseTest(TextTest):
    def test_example_of_the_interface(self):
        self.assertEqual(parse_sentence("(a & b) [3/0] > c"),
                         ("trade", (3, 0), ("menu", ("word", "a"), ("word", "b")), ("word", "c")))

    def test_spaces_and_none(self):
        made = trade(menu(A, B), trade(C, D, kind=(20, 10)), kind=(3, 0))
        for text in ["a&b[3/0]>c[20/10]>d", "  a  &  b  [  3  /  0  ]  >  c [ 20 / 10 ] > d  ",
                     "(a&b)[3/0]>(c[20/10]>d)", " ( a & b ) [3/0]>(  (c  )[20/10]>d)"]:
            self.assertEqual(parse_sentence(text), made)

    def test_needless_parentheses(self):
        for text in ["(a)", "((a))", " ( ( ( a ) ) ) "]:
            self.assertEqual(parse_sentence(text), A)
        self.assertEqual(parse_sentence("((a) & (b)) & (c)"), menu(menu(A, B), C))
        self.assertEqual(parse_sentence("(a) > ((b) > (c))"), trade(A, trade(B, C)))

    def test_grouping(self):
        self.assertEqual(parse_sentence("a & b & c & d"), menu(menu(menu(A, B), C), D))
        self.assertEqual(parse_sentence("a > b > c > d"), trade(A, trade(B, trade(C, D))))
        self.assertEqual(parse_sentence("a & b > c & d > a"),
                         trade(menu(A, B), trade(menu(C, D), A)))
        self.assertEqual(parse_sentence("(a > b) > c"), trade(trade(A, B), C))

    def test_names_and_numbers_at_their_limits(self):
        self.assertEqual(parse_sentence("abcdefghijkl"), word("abcdefghijkl"))
        self.assertEqual(parse_sentence("a [999999999/999999999] > b"),
                         trade(A, B, kind=(999999999, 999999999)))
        self.assertEqual(parse_sentence("a [1/0] > b"), trade(A, B, kind=(1, 0)))
        self.assertEqual(parse_sentence("a [100/10] > b"), trade(A, B, kind=(100, 10)))


class FaultTest(TextTest):
    def test_examples_of_the_document(self):
        self.fails("", 0)
        self.fails("&", 0)
        self.fails("a b", 2)
        self.fails("(a ", 3)
        self.fails("a)", 1)
        self.fails("(a [2/0] > b & c", 16)

    def test_missing_at_the_end(self):
        for text in [" ", "   ", "(", "((", "a &", "a & ", "a >", "a > ", "(a", "((a)", "a [", "a [ ",
                     "a [1", "a [1 ", "a [1/", "a [1/ ", "a [1/0", "a [1/12", "a [1/0 ", "a [1/0]",
                     "a [1/0] ", "a [1/0] >", "a & (b", "(a > b"]:
            self.fails(text, len(text))

    def test_atoms(self):
        self.fails("0", 0)
        self.fails("1a", 0)
        self.fails("A", 0)
        self.fails("_", 0)
        self.fails(")", 0)
        self.fails("()", 1)
        self.fails("a & & b", 4)
        self.fails("a > > b", 4)
        self.fails("a & )", 4)
        self.fails("(a & )", 5)
        self.fails("[1/0] > a", 0)
        self.fails("a & [1/0] > b", 4)

    def test_behind_atoms(self):
        self.fails("aB", 1)
        self.fails("a_b", 1)
        self.fails("a(b)", 1)
        self.fails("a (b)", 2)
        self.fails("(a)b", 3)
        self.fails("(a) (b)", 4)
        self.fails("(a))", 3)
        self.fails("(a b)", 3)
        self.fails("a, b", 1)
        self.fails("a |- b", 2)
        self.fails("a : b", 2)
        self.fails("a / b", 2)
        self.fails("a ] b", 2)
        self.fails("(a , b)", 3)
        self.fails("a 1", 2)
        self.fails("a\tb", 1)
        self.fails("a\u00e9", 1)
        self.fails("\u00e9", 0)

    def test_names(self):
        self.fails("abcdefghijklm", 12)
        self.fails("abcdefghijkl0", 12)
        self.fails("a & bbbbbbbbbbbbbbbb", 16)
        self.fails("(abcdefghijklmnop", 13)
        self.fails("ab cd", 3)

    def test_kinds(self):
        self.fails("a [0/1] > b", 3)
        self.fails("a [01/1] > b", 3)
        self.fails("a [x/1] > b", 3)
        self.fails("a []", 3)
        self.fails("a [/1]", 3)
        self.fails("a [1]", 4)
        self.fails("a [1 2/0] > b", 5)
        self.fails("a [1234567890/0] > b", 12)
        self.fails("a [123456789 0/0] > b", 13)
        self.fails("a [1x", 4)
        self.fails("a [1/00] > b", 6)
        self.fails("a [1/01] > b", 6)
        self.fails("a [1/x] > b", 5)
        self.fails("a [1/]", 5)
        self.fails("a [1//0]", 5)
        self.fails("a [1/1 2] > b", 7)
        self.fails("a [1/1234567890] > b", 14)
        self.fails("a [1/0) > b", 6)
        self.fails("a [once] > b", 3)
        self.fails("a [-1/0] > b", 3)
        self.fails("a [\u00b2/0] > b", 3)
        self.fails("a [2\u0661/0] > b", 4)

    def test_behind_kinds(self):
        self.fails("a [1/0] b", 8)
        self.fails("a [1/0] & b", 8)
        self.fails("a [1/0] [1/0] > b", 8)
        self.fails("(a [1/0]) > b", 8)
        self.fails("a [1/0]: b", 7)

    def test_every_short_text(self):
        letters = "a &>()[/]10"
        for length in range(5):
            for chars in itertools.product(letters, repeat=length):
                text = "".join(chars)
                if is_sentence(text):
                    self.assertIsNone(error_of(parse_sentence, text), text)
                else:
                    self.fails(text, least_fault(begins_sentence, text))

    def test_spoilt_texts(self):
        source = random.Random(15)
        for _ in range(400):
            text = scattered(source, format_sentence(random_sentence(source, 3)))
            at = source.randrange(len(text) + 1)
            new = source.choice(["", *"a &>()[/]10A,|:#", "abcdefghijkl", "1234567890"])
            text = text[:at] + new + text[at + source.choice([0, 1]):]
            if is_sentence(text):
                self.assertIsNone(error_of(parse_sentence, text), text)
            else:
                self.fails(text, least_fault(begins_sentence, text))


class LimitsTest(TextTest):
    """The limits of point 3."""

    def test_sixty_open_parentheses(self):
        for depth in (60, 75):
            self.assertEqual(parse_sentence("(" * depth + "a" + ")" * depth), A)
            text = "(a > " * depth + "b" + ")" * depth + " & c"
            made = parse_sentence(text)
            self.assertEqual(made[2], C)
            tower = A
            for _ in range(depth):
                tower = trade(tower, B)
            text = "(" * (depth - 1) + "a" + " > b)" * (depth - 1) + " > b"
            self.assertEqual(format_sentence(tower), text)
            self.assertEqual(parse_sentence(text), tower)
            menus = A
            for _ in range(depth):
                menus = menu(B, menus)
            self.assertEqual(format_sentence(menus), "b & (" * (depth - 1) + "b & a" + ")" * (depth - 1))
            self.assertEqual(parse_sentence(format_sentence(menus)), menus)

    def test_fault_behind_sixty_open_parentheses(self):
        self.fails("(" * 60 + "a" + ")" * 61, 121)
        self.fails("(" * 60 + "a" + ")" * 59, 120)
        self.fails("(" * 60 + ")", 60)

    def test_150_names(self):
        names = ["n" + str(index) for index in range(150)]
        menus = parse_sentence(" & ".join(names))
        self.assertEqual(menus[2], word("n149"))
        self.assertEqual(format_sentence(menus), " & ".join(names))
        chain = parse_sentence(" [7/8] > ".join(names))
        self.assertEqual(chain[:3], ("trade", (7, 8), word("n0")))
        self.assertEqual(format_sentence(chain), " [7/8] > ".join(names))

    def test_20000_characters(self):
        text = "a" + " " * 9998 + "&" + " " * 9998 + "b"
        self.assertEqual(len(text), 19999)
        self.assertEqual(parse_sentence(text), menu(A, B))
        self.assertEqual(parse_sentence(text + " "), menu(A, B))
        self.fails(text + ")", 19999)
        self.fails(" " * 20000, 20000)
        self.fails("a [" + "1" * 19997, 12)
        self.fails("a" * 20000, 12)

    def test_many_closed_parentheses(self):
        text = " & ".join(["(" * 60 + "a" + ")" * 60] * 150)
        self.assertLess(len(text), 20000)
        self.assertEqual(parse_sentence(text), parse_sentence(" & ".join(["a"] * 150)))

    def test_the_number_of_words_and_the_nesting_do_not_matter(self):
        self.fails("(" * 20000, 20000)
        self.fails("a > " * 5000, 20000)
        self.fails("a & " * 4999 + "a b", 19998)


if __name__ == "__main__":
    unittest.main()
