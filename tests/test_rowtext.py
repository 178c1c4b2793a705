"""Points 23 and 24: the texts of derivations."""

import itertools
import random
import unittest

from grammar import derivation_fault
from helper import error_of, holds_no_list, random_derivation, tower
from heldproofs.rows import row_count
from heldproofs.rowtext import format_derivation, parse_derivation

A, B = ("word", "a"), ("word", "b")
X, Z = ("own", "x"), ("own", 0)
ODD = ["own", "take", "offer", "pick", "pay", "make", "open", "cut", "cite", "once", "left", "right"]

TEXTS = [
    (X, "own x"),
    (("own", 0), "own #0"),
    (("own", 999999999), "own #999999999"),
    (("take", Z), "take own #0"),
    (("offer", X, ("own", "y")), "offer own x own y"),
    (("pick", "x", "left", Z), "pick x left own #0"),
    (("pick", 12, "right", ("own", 13)), "pick #12 right own #13"),
    (("pay", "f", "once", X, Z), "pay f once own x own #0"),
    (("pay", 3, (20, 10), X, Z), "pay #3 [20/10] own x own #0"),
    (("make", "w", 0, X), "make w 0 own x"),
    (("make", "w", 999999999, X), "make w 999999999 own x"),
    (("open", "x", "w", 7, Z), "open x w 7 own #0"),
    (("open", 0, "w", 0, ("own", 1)), "open #0 w 0 own #1"),
    (("cut", "once", A, X, Z), "cut once (a) own x own #0"),
    (("cut", (1, 0), ("trade", (2, 0), ("menu", A, B), A), X, Z), "cut [1/0] (a & b [2/0] > a) own x own #0"),
    (("cut", "once", ("menu", A, ("menu", B, A)), X, Z), "cut once (a & (b & a)) own x own #0"),
    (("cut", "once", ("trade", "once", ("trade", "once", A, B), A), X, Z), "cut once ((a > b) > a) own x own #0"),
    (("cite", "e"), "cite e"),
    (("take", ("cut", "once", ("menu", A, B), Z, ("pick", 1, "left", ("own", 2)))),
     "take cut once (a & b) own #0 pick #1 left own #2"),
]


class TextTest(unittest.TestCase):
    def fails(self, text, index):
        self.assertEqual(error_of(parse_derivation, text), ("TextError", {"index": index}), text)


class FormatTest(TextTest):
    def test_all_rows(self):
        for derivation, text in TEXTS:
            self.assertEqual(format_derivation(derivation), text)
            self.assertEqual(parse_derivation(text), derivation)
            self.assertTrue(holds_no_list(parse_derivation(text)))

    def test_words_that_are_not_reserved(self):
        for odd in ODD:
            for derivation in [("own", odd), ("cite", odd), ("pick", odd, "left", ("own", odd)),
                               ("pay", odd, "once", ("own", odd), ("own", odd)), ("make", odd, 0, ("own", odd)),
                               ("open", odd, odd, 0, ("own", odd)),
                               ("cut", "once", ("word", odd), ("own", odd), ("own", odd))]:
                self.assertEqual(parse_derivation(format_derivation(derivation)), derivation)
        self.assertEqual(parse_derivation("pick left left own own"), ("pick", "left", "left", ("own", "own")))
        self.assertEqual(parse_derivation("pay once once own once own own"),
                         ("pay", "once", "once", ("own", "once"), ("own", "own")))
        self.assertEqual(parse_derivation("open take cut 0 cite cite"), ("open", "take", "cut", 0, ("cite", "cite")))

    def test_format_and_parse_are_inverse(self):
        source = random.Random(23)
        for _ in range(200):
            derivation = random_derivation(source, 5)
            text = format_derivation(derivation)
            self.assertEqual(parse_derivation(text), derivation)
            self.assertNotIn("  ", text)
            self.assertIsNone(derivation_fault(text))
            wide = text.replace(" ", source.choice(["  ", "     "]))
            self.assertEqual(parse_derivation("  " + wide + " "), derivation)

    def test_numbers_beyond_nine_digits_are_written(self):
        self.assertEqual(format_derivation(("pay", 10 ** 10, (10 ** 10, 10 ** 11), X, Z)),
                         "pay #10000000000 [10000000000/100000000000] own x own #0")


class ParseTest(TextTest):
    def test_example_of_the_interface(self):
        self.assertEqual(parse_derivation("take pay f once own #0 own #1"),
                         ("take", ("pay", "f", "once", ("own", 0), ("own", 1))))

    def test_spaces(self):
        cut = ("cut", (2, 1), ("menu", A, B), X, Z)
        for text in ["cut [2/1] (a & b) own x own #0", "  cut   [2/1]  (a & b)   own  x  own  #0  ",
                     "cut [2/1] (a&b) own x own #0", "cut [2/1] (  a  &  b  ) own x own #0",
                     "cut [2/1] ((a)&((b))) own x own #0", "cut [2/1] ( ( a & b ) ) own x own #0"]:
            self.assertEqual(parse_derivation(text), cut)
        self.assertEqual(parse_derivation("cut once (a [ 2 / 1 ] > b) own x own #0")[2],
                         ("trade", (2, 1), A, B))

    def test_levels_need_not_be_in_scope(self):
        self.assertEqual(parse_derivation("own #5"), ("own", 5))
        self.assertEqual(parse_derivation("take own #999999999"), ("take", ("own", 999999999)))


class FaultTest(TextTest):
    def test_examples_of_the_document(self):
        self.fails("cut once (a b) own x own #0", 12)
        self.fails("cut once (a)own x own #0", 12)
        self.fails("cut once(a) own x own #0", 4)
        self.fails("take ow", 5)

    def test_missing_at_the_end(self):
        for derivation, text in TEXTS:
            ends = [index for index, char in enumerate(text) if char == " "]
            for end in ends:
                # Within a sentence the text breaks off, too: its closing parenthesis is missing.
                self.fails(text[:end], end)
                self.fails(text[:end] + "   ", end + 3)
        for text in ["", " ", "   ", "own", "cite ", "cut once (", "cut once (a", "cut once ( ", "cut once ((a)",
                     "cut once (a &", "cut once (a [1/", "cut once (a [1/0] "]:
            self.fails(text, len(text))

    def test_tokens_that_cannot_stand(self):
        for text, index in [
            ("x", 0), ("(a)", 0), ("#0", 0), ("once", 0), ("  Own x", 2), ("own X", 4), ("own 0", 4), ("own #", 4),
            ("own #x", 4), ("own # 0", 4), ("own #00", 4), ("own #01", 4), ("own #-1", 4), ("own #1234567890", 4),
            ("own x#0", 4), ("own (x)", 4), ("own [1/0]", 4), ("own abcdefghijklm", 4), ("own x,", 4),
            ("own\tx", 0), ("own x y", 6), ("own x own y", 6), ("own x)", 4), ("own x )", 6),
            ("take x", 5), ("take #0", 5), ("take take", 9), ("offer own x x", 12), ("offer own x own y own z", 18),
            ("pick x middle own y", 7), ("pick x Left own y", 7), ("pick left own y", 10), ("pick 0 left own y", 5),
            ("pay f twice own x own y", 6), ("pay f [0/0] own x own y", 6), ("pay f [1/00] own x own y", 6),
            ("pay f [1] own x own y", 6), ("pay f [1/] own x own y", 6), ("pay f [/0] own x own y", 6),
            ("pay f [1/0 own x own y", 6), ("pay f 1/0] own x own y", 6), ("pay f [1/0/0] own x own y", 6),
            ("pay f [ 1/0] own x own y", 6), ("pay f [1/0 ] own x own y", 6), ("pay f [1 /0] own x own y", 6),
            ("pay f [1/0]own x own y", 6), ("pay f [1234567890/0] own x own y", 6), ("pay f [] own x own y", 6),
            ("pay f [ own x", 6), ("pay f ] own x", 6), ("pay f [1/1234567890] own x", 6),
            ("pay f own x own y", 6), ("pay f once x", 11),
            ("make w own x", 7), ("make #0 0 own x", 5), ("make w #0 own x", 7), ("make w 00 own x", 7),
            ("make w 1234567890 own x", 7), ("make w -1 own x", 7), ("make 0 own x", 5),
            ("open x 0 own y", 7), ("open x #0 0 own y", 7), ("open x w x own y", 9), ("open x w 0 y", 11),
            ("cut (a) own x own y", 4), ("cut once a own x own y", 9), ("cut once own x own y", 9),
            ("cut once [1/0] (a) own x own y", 9), ("cut once )a( own x own y", 9), ("cut once a) own x own y", 9),
            ("cut [1/0](a) own x own y", 4), ("cite #0", 5), ("cite E", 5), ("cite e e", 7), ("cite (e)", 5),
        ]:
            self.fails(text, index)
            self.assertEqual(derivation_fault(text), index)

    def test_tokens_that_are_only_beginnings(self):
        for text, index in [
            ("o", 0), ("ow", 0), ("tak", 0), ("take c", 5), ("offer own x of", 12), ("pick x lef", 7), ("pick x r", 7),
            ("pay f onc", 6), ("pay f o", 6), ("pay f [", 6), ("pay f [1", 6), ("pay f [1/", 6), ("pay f [1/0", 6),
            ("own #", 4), ("cut [2/1 (a)", 4), ("owns x", 0), ("pick x leftt own y", 7), ("pay f oncee own x", 6),
        ]:
            self.fails(text, index)

    def test_faults_within_the_parentheses(self):
        for inside, index in [("", 0), ("  ", 2), ("&", 0), ("a b", 2), ("a & ", 4), ("a &", 3), ("a > > b", 4),
                              ("A", 0), ("()", 1), ("a, b", 1), ("a [0/1] > b", 3), ("a [1/0] b", 8), ("a [1/0]", 7),
                              ("(a b)", 3), ("(a) b", 4), ("abcdefghijklm", 12), ("#0", 0), ("a |- b", 2)]:
            for text in ["cut once (" + inside + ") own x own #0", "cut once (" + inside + ")"]:
                self.fails(text, 10 + index)
                self.assertEqual(derivation_fault(text), 10 + index)

    def test_a_fault_within_comes_before_one_behind(self):
        self.fails("cut once (a b)own x own #0", 12)
        self.fails("cut once (a &)) own", 13)

    def test_missing_closing_parentheses(self):
        for text in ["cut once (a", "cut once (a & b", "cut once ((a) & b ", "cut once (a & (b)", "cut once (a [2/0",
                     "cut once (a [2/0] > ", "take cut once (", "cut once ((((a)  "]:
            self.fails(text, len(text))
            self.assertEqual(derivation_fault(text), len(text))

    def test_a_fault_comes_before_a_missing_closing_parenthesis(self):
        for text, index in [
            ("cut once (a own x own #0", 12), ("cut once ((a) own x own #0", 14), ("cut once (a b", 12),
            ("cut once ((a b) own x own #0", 13), ("cut once (& own x own #0", 10), ("cut once (a (b) own x", 12),
            ("cut once (] own x own #0", 10), ("cut once (a [0/1] > b own x own #0", 13), ("cut once (A", 10),
            ("cut once ((", 11), ("cut once (()", 11), ("cut once (abcdefghijklm", 22), ("cut once (a > b c", 16),
            ("take cut [999999999/100] (open & ql > ql  pay #0 once own #0 own ql cite open", 42),
        ]:
            self.fails(text, index)
            self.assertEqual(derivation_fault(text), index)

    def test_what_stands_behind_a_fault_does_not_move_it(self):
        for text, index in [("cut once (a o", 12), ("cut once (a [2/0] b", 18), ("cut once ((a) (", 14),
                            ("take cut [1/0] (a & )", 20)]:
            for behind in ["", " ", ")", " )", ") own x own #0", "own x own #0", " (b)", "))", "(", "&"]:
                self.fails(text + behind, index)
                self.assertEqual(derivation_fault(text + behind), index)

    def test_directly_behind_the_closing_parenthesis(self):
        for behind in ["own", "x", ")", "(", ",", "#0", "&", "[1/0]"]:
            self.fails("cut once (a)" + behind + " own x own #0", 12)
            self.fails("cut once (a & (b))" + behind, 18)
            self.fails("cut once (a)" + behind + ")", 12)
        self.fails("cut once (a)", 12)
        self.fails("cut once (a) ", 13)
        self.fails("cut once (a) & b", 13)
        self.fails("cut once (a) x", 13)

    def test_parentheses_are_tokens_in_a_cut_only(self):
        self.fails("own (a & b)", 4)
        self.fails("take (own #0)", 5)
        self.fails("pay f once (own x) own y", 11)

    def test_every_short_text(self):
        words = ["own", "take", "pick", "cut", "x", "#0", "once", "left", "(a)", "(", ")", "(a", "0", "[1/0]", "&"]
        for length in range(5):
            for chosen in itertools.product(words, repeat=length):
                text = " ".join(chosen)
                index = derivation_fault(text)
                if index is None:
                    self.assertEqual(format_derivation(parse_derivation(text)), text)
                else:
                    self.fails(text, index)

    def test_spoilt_texts(self):
        source = random.Random(24)
        for _ in range(1500):
            text = format_derivation(random_derivation(source, source.choice([1, 2, 3])))
            at = source.randrange(len(text) + 1)
            new = source.choice(["", "", " ", *"ax &>()[/]10A,#", "own", " own ", " #0 ", "(a)", " (a) ", " once "])
            text = text[:at] + new + text[at + source.choice([0, 1]):]
            index = derivation_fault(text)
            if index is None:
                self.assertIsNone(error_of(parse_derivation, text), text)
            else:
                self.fails(text, index)


class LimitsTest(TextTest):
    """The limits of point 3, and somewhat beyond."""

    def test_nested_deep(self):
        for depth in (60, 150, 200):
            for derivation in tower(depth):
                text = format_derivation(derivation)
                self.assertEqual(parse_derivation(text), derivation)
                self.fails(text + " x", len(text) + 1)
                self.fails("take " + text[:text.rindex(" ")], 5 + text.rindex(" "))

    def test_many_rows(self):
        text = "offer own x " * 199 + "own y"
        self.assertEqual(row_count(parse_derivation(text)), 399)
        self.assertEqual(format_derivation(parse_derivation(text)), text)

    def test_20000_characters(self):
        text = "take" + " " * 19988 + "own #0"
        self.assertEqual(parse_derivation(text), ("take", Z))
        self.fails(text + "x", 19996)
        self.fails(" " * 20000, 20000)
        self.fails("take " * 4000, 20000)
        self.fails("cut once (" + "(" * 19990, 20000)
        self.fails("o" * 20000, 0)

    def test_sentences_at_their_limits(self):
        for depth in (60, 75):
            text = "cut once (" + "(" * (depth - 1) + "a" + ")" * depth + " own x own #0"
            self.assertEqual(parse_derivation(text), ("cut", "once", A, X, Z))
            self.fails(text.replace("a", "a b"), 9 + depth + 2)
        text = "cut once (" + " & ".join(["a"] * 150) + ") own x own #0"
        self.assertEqual(format_derivation(parse_derivation(text)), text)


if __name__ == "__main__":
    unittest.main()
