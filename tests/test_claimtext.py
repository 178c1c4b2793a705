"""Point 19: the texts of claims."""

import itertools
import random
import re
import unittest

from grammar import begins_claim, is_claim
from helper import error_of, holds_no_list, least_fault, random_kind, random_sentence, scattered
from heldproofs.claims import make_claim
from heldproofs.claimtext import format_claim, parse_claim
from heldproofs.sentences import menu, trade

A, B, C = ("word", "a"), ("word", "b"), ("word", "c")


def repeated_name(text, stop):
    """Where the first repeated name with its colon in front of stop begins, or None."""
    names = []
    for colon in [index for index, char in enumerate(text[:stop]) if char == ":"]:
        match = re.search(r"([a-z][a-z0-9]*) *(\[[^\]]*\] *)?:$", text[:colon + 1])
        if match.group(1) in names:
            return match.start()
        names.append(match.group(1))
    return None


def expected_fault(text):
    """The index that point 19 asks for, or None for the text of a claim."""
    fault = None if is_claim(text) else least_fault(begins_claim, text)
    name = repeated_name(text, len(text) if fault is None else fault)
    return fault if name is None else name


class TextTest(unittest.TestCase):
    def fails(self, text, index):
        self.assertEqual(error_of(parse_claim, text), ("TextError", {"index": index}), text)


class FormatTest(TextTest):
    def test_texts(self):
        for holds, goal, text in [
            ([], A, "|- a"),
            ([], trade(A, B), "|- a > b"),
            ([("x", "once", A)], C, "x: a |- c"),
            ([("x", (2, 0), A)], C, "x [2/0]: a |- c"),
            ([("x", "once", A), ("y", (1, 100), B), ("z", "once", menu(A, B))], trade(B, C, kind=(3, 4)),
             "x: a, y [1/100]: b, z: a & b |- b [3/4] > c"),
            ([("f", (2, 0), trade(A, B, kind=(2, 1)))], B, "f [2/0]: a [2/1] > b |- b"),
        ]:
            claim = make_claim(holds, goal)
            self.assertEqual(format_claim(claim), text)
            self.assertEqual(parse_claim(text), claim)
            self.assertTrue(holds_no_list(parse_claim(text)))

    def test_format_and_parse_are_inverse(self):
        source = random.Random(19)
        for _ in range(300):
            names = source.sample(["x", "y", "own", "once", "a", "z12345678901"], source.randrange(6))
            holds = [(name, random_kind(source), random_sentence(source, 2)) for name in names]
            claim = make_claim(holds, random_sentence(source, 2))
            text = format_claim(claim)
            self.assertEqual(parse_claim(text), claim)
            self.assertEqual(parse_claim(scattered(source, text)), claim)
            self.assertIsNone(expected_fault(text))


class ParseTest(TextTest):
    def test_spaces_and_none(self):
        claim = make_claim([("x", "once", A), ("y", (2, 10), trade(A, B, kind=(3, 0)))], menu(A, B))
        for text in ["x:a,y[2/10]:a[3/0]>b|-a&b", "x: a, y [2/10]: a [3/0] > b |- a & b",
                     "  x  :  a  ,  y  [  2  /  10  ]  :  a  [ 3 / 0 ] > b  |-  a  &  b  ",
                     "x:(a),y[2/10]:((a)[3/0]>b)|-(a&b)"]:
            self.assertEqual(parse_claim(text), claim)
        for text in ["|-a", "  |-  a  ", "|- (a)"]:
            self.assertEqual(parse_claim(text), ((), A))

    def test_limits(self):
        self.assertEqual(parse_claim("abcdefghijkl [999999999/999999999]: a |- b"),
                         ((("abcdefghijkl", (999999999, 999999999), A),), B))
        names = ["h" + str(index) for index in range(50)]
        claim = make_claim([(name, (400, 100), A) for name in names], B)
        self.assertEqual(parse_claim(format_claim(claim)), claim)
        text = "x: " + "(" * 60 + "a" + ")" * 60 + "," + " " * 19868 + "y:b|-c"
        self.assertEqual(len(text), 19999)
        self.assertEqual(parse_claim(text), make_claim([("x", "once", A), ("y", "once", B)], C))
        self.fails(text.replace("y", "x"), 19993)
        self.fails(text + ")", 19999)
        self.fails("(" * 20000, 0)
        self.fails("|-" + "(" * 19998, 20000)
        self.fails("x: " + " & ".join(["a"] * 150) + " |- " + " > ".join(["a"] * 150) + " |", 1202)


class FaultTest(TextTest):
    def test_missing_at_the_end(self):
        for text in ["", " ", "x", "x ", "x [", "x [1", "x [1/", "x [1/0", "x [1/0]", "x [1/0] ", "x:", "x: ",
                     "x: a", "x: a ", "x: a,", "x: a, ", "x: a, y", "x: a, y:", "x: a |", "x: a |-", "x: a |- ",
                     "|", "|-", "|- ", "|- (a", "|- a >", "x: (a", "x: a [2/0] >"]:
            self.fails(text, len(text))

    def test_faults(self):
        self.fails("a |- b", 2)
        self.fails("X: a |- b", 0)
        self.fails("1: a |- b", 0)
        self.fails(": a |- b", 0)
        self.fails(", x: a |- b", 0)
        self.fails("x y: a |- b", 2)
        self.fails("x, y: a |- b", 1)
        self.fails("abcdefghijklm: a |- b", 12)
        self.fails("x: a, |- b", 6)
        self.fails("x: a,, y: b |- c", 5)
        self.fails("x: a y: b |- c", 5)
        self.fails("x: a; y: b |- c", 4)
        self.fails("x: a)", 4)
        self.fails("x: (a, y: b) |- c", 5)
        self.fails("x: (a |- b", 6)
        self.fails("x: |- b", 3)
        self.fails("x: a | - b", 6)
        self.fails("| - b", 1)
        self.fails("- b", 0)
        self.fails("x: a - b", 5)
        self.fails("x: a |- |- b", 8)
        self.fails("|- a, x: b", 4)
        self.fails("|- a |- b", 5)
        self.fails("|- a: b", 4)
        self.fails("|- a b", 5)
        self.fails("|- a)", 4)
        self.fails("|- A", 3)
        self.fails("x:: a |- b", 2)
        self.fails("x: a: b |- c", 4)

    def test_faults_in_kinds(self):
        self.fails("x [0/0]: a |- b", 3)
        self.fails("x [1/00]: a |- b", 6)
        self.fails("x [1 0/0]: a |- b", 5)
        self.fails("x [1234567890/0]: a |- b", 12)
        self.fails("x [once]: a |- b", 3)
        self.fails("x []: a |- b", 3)
        self.fails("x [1/0] > a |- b", 8)
        self.fails("x [1/0] [1/0]: a |- b", 8)
        self.fails("x: a [1/0]: b |- c", 10)
        self.fails("x: a [1/0] |- c", 11)
        self.fails("x: a [1/0], y: b |- c", 10)

    def test_example_of_the_interface(self):
        self.fails("x: a, x [2/0]: b |- c", 6)

    def test_repeated_names(self):
        self.fails("x: a, x: b |- c", 6)
        self.fails("x: a, x : b |- c", 6)
        self.fails("x: a,x:", 5)
        self.fails("x: a, x [ 2 / 0 ] :", 6)
        self.fails("x: a, y: b, x: c |- c", 12)
        self.fails("x: a, y: b, y: c, x: a |- c", 12)
        self.fails("x: a, x: & b", 6)
        self.fails("x: a, x: ((( |-", 6)
        self.fails("x: a, x:: b |- c", 6)

    def test_repeated_names_with_a_fault_in_front_of_the_colon(self):
        self.fails("x: a, x", 7)
        self.fails("x: a, x ", 8)
        self.fails("x: a, x, y: b |- c", 7)
        self.fails("x: a, x y: b |- c", 8)
        self.fails("x: a, x |- c", 8)
        self.fails("x: a, x [", 9)
        self.fails("x: a, x [0/0]: b |- c", 9)
        self.fails("x: a, x [2/00]: b |- c", 12)
        self.fails("x: a, x [2/0]", 13)
        self.fails("x: a, x [2/0] > b |- c", 14)
        self.fails("x: a, x [2/0] y: b |- c", 14)
        self.fails("x: a & , x: b |- c", 7)
        self.fails("x: a, y: ), x: b |- c", 9)

    def test_a_longer_name_is_another_one(self):
        self.assertEqual(parse_claim("x: a, xx: b |- c"), make_claim([("x", "once", A), ("xx", "once", B)], C))

    def test_every_short_text(self):
        for length in range(4):
            for chars in itertools.product("a :,|-&>()[/]10", repeat=length):
                text = "".join(chars)
                self.fails(text, expected_fault(text)) if expected_fault(text) is not None else parse_claim(text)

    def test_spoilt_texts(self):
        source = random.Random(20)
        for _ in range(400):
            names = [source.choice("ab") for _ in range(source.randrange(4))]
            holds = tuple([(name, random_kind(source), random_sentence(source, 1)) for name in names])
            text = scattered(source, format_claim((holds, random_sentence(source, 1))))
            at = source.randrange(len(text) + 1)
            new = source.choice(["", "", *"ax &>()[/]10A,|-:", "|-", "a:", ",a:", "a[1/1]:"])
            text = text[:at] + new + text[at + source.choice([0, 1]):]
            index = expected_fault(text)
            if index is None:
                self.assertIsNone(error_of(parse_claim, text), text)
            else:
                self.fails(text, index)


if __name__ == "__main__":
    unittest.main()
