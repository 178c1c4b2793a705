"""Points 62 to 65: ways and ends."""

import random
import unittest

from drawing import draw_claim, draw_library, draw_sentence
from helper import check_new
from heldproofs.claims import bare_claim
from heldproofs.claimtext import parse_claim
from heldproofs.ends import ends, ways
from heldproofs.library import Library
from heldproofs.sentences import legs, trade, word
from heldproofs.sentencetext import parse_sentence
from plain import bare, plain_ends, plain_ways

A, B, C, W = word("a"), word("b"), word("c"), word("w")


def ends_of(text, library=None):
    """The ends of a claim, as texts of claims without names; each end once."""
    pairs, goal = bare_claim(parse_claim(text))
    return {tuple(end) for end in ends(library or Library(), pairs, goal)}


def claims(*texts):
    """An end with these premises."""
    return tuple([bare_claim(parse_claim(text)) for text in texts])


class WaysTest(unittest.TestCase):
    def test_without_definitions_they_are_the_legs(self):
        source = random.Random(62)
        for _ in range(100):
            sentence = draw_sentence(source, 4)
            self.assertEqual(ways(Library(), sentence), legs(sentence))

    def test_through_defined_words(self):
        library = Library()
        sentence = parse_sentence("b [2/1] > w")
        self.assertEqual(ways(library, sentence), [([((2, 1), B)], "w")])
        library.define("w", makes=[C], opens=[parse_sentence("a > c"), parse_sentence("a & b")])
        self.assertEqual(ways(library, W), [([], "w"), ([("once", A)], "c"), ([], "a"), ([], "b")])
        self.assertEqual(ways(library, sentence), [([((2, 1), B)], "w"), ([((2, 1), B), ("once", A)], "c"),
                                                   ([((2, 1), B)], "a"), ([((2, 1), B)], "b")])
        library.define("v", opens=[parse_sentence("a & w"), C])
        self.assertEqual([name for prices, name in ways(library, word("v"))], ["v", "a", "w", "c", "a", "b", "c"])
        # A price is not opened, and a make is not a way.
        self.assertEqual(ways(library, parse_sentence("w > a")), [([("once", W)], "a")])
        library.undefine("v")
        self.assertEqual(ways(library, word("v")), [([], "v")])
        library.undefine("w")
        self.assertEqual(ways(library, sentence), [([((2, 1), B)], "w")])

    def test_against_the_definition(self):
        source = random.Random(620)
        for _ in range(200):
            library, sentence = draw_library(source), draw_sentence(source, 3)
            self.assertEqual(ways(library, sentence), plain_ways(library, sentence))

    def test_lists_are_new(self):
        library = Library()
        library.define("w", opens=[A, parse_sentence("a > b")])
        for sentence in [W, parse_sentence("a > w & b"), A]:
            check_new(self, lambda sentence: ways(library, sentence), sentence)

    def test_deep_words(self):
        library = Library()
        names = ["w1", "w2", "w3", "w4", "w5", "w6", "w7", "w8"]
        inner = A
        for name in names:
            deep = inner
            for _ in range(59):
                deep = trade(B, deep)
            library.define(name, opens=[deep])
            inner = word(name)
        found = ways(library, inner)
        self.assertEqual([len(prices) for prices, name in found], [59 * count for count in range(9)])
        self.assertEqual(found[-1][1], "a")


class EndsTest(unittest.TestCase):
    def test_example_of_the_interface(self):
        self.assertEqual(ends(Library(), [((2, 0), trade(A, A))], A),
                         [[((((1, 0), ("trade", "once", A, A)),), A)]])

    def test_a_trade(self):
        self.assertEqual(ends_of("x: a |- b > c"), {claims("x: a, y: b |- c")})
        self.assertEqual(ends_of("x [3/4]: a |- a [2/1] > a"), {claims("x [2/1]: a, y [3/4]: a |- a")})
        self.assertEqual(ends_of("x: a > b |- a > b"), {claims("x: a > b, y: a |- b")})

    def test_a_menu(self):
        self.assertEqual(ends_of("x: a |- b & c"), {claims("x: a |- b", "x: a |- c")})
        self.assertEqual(ends_of("x: a & b |- a & b"), {claims("x: a & b |- a", "x: a & b |- b")})

    def test_a_word_without_prices(self):
        self.assertEqual(ends_of("x: a |- a"), {()})
        self.assertEqual(ends_of("x: a |- b"), set())
        self.assertEqual(ends_of("|- a"), set())
        self.assertEqual(ends_of("x: a, y: b |- a"), set())
        self.assertEqual(ends_of("x: a, y [7/7]: b |- a"), {()})
        self.assertEqual(ends_of("x [2/0]: b & a |- a"), {()})
        self.assertEqual(ends_of("x: a, y: a |- a"), set())
        self.assertEqual(ends_of("x [1/0]: a, y: b |- a"), set())

    def test_a_spent_pair(self):
        self.assertEqual(ends_of("f: a > a |- a"), {claims("|- a")})
        self.assertEqual(ends_of("f [1/5]: a > a |- a"), {claims("|- a")})
        self.assertEqual(ends_of("f [3/5]: a > a |- a"), {claims("f [2/5]: a > a |- a")})

    def test_defined_words(self):
        library = Library()
        library.define("w", makes=[A, parse_sentence("b & c")], opens=[parse_sentence("b > a"), C])
        self.assertEqual(ends_of("x: b |- w", library), {claims("x: b |- a"), claims("x: b |- b & c")})
        self.assertEqual(ends_of("x: w |- w", library), {(), claims("x: w |- a"), claims("x: w |- b & c")})
        self.assertEqual(ends_of("x: w, y: b |- a", library), {claims("y: b |- b")})
        self.assertEqual(ends_of("x: w |- c", library), {()})
        library.undefine("w")
        self.assertEqual(ends_of("x: w |- w", library), {()})
        self.assertEqual(ends_of("x: b |- w", library), set())
        self.assertEqual(ends_of("x: w |- c", library), set())

    def test_once_goes_to_one_price_of_the_kind_once(self):
        self.assertEqual(ends_of("f: a > b > c, x: a |- c"),
                         {claims("x: a |- a", "|- b"), claims("|- a", "x: a |- b")})
        self.assertEqual(ends_of("f: a > b [2/0] > c, x: a |- c"), {claims("x: a |- a", "|- b")})
        self.assertEqual(ends_of("f: a [2/0] > b [2/0] > c, x: a |- c"), set())
        self.assertEqual(ends_of("f: a [1/0] > c, x: a |- c"), set())

    def test_stock_and_prices_of_the_kind_once(self):
        self.assertEqual(ends_of("f: a > c, x [3/2]: a |- c"), {claims("x [3/2]: a |- a")})
        self.assertEqual(ends_of("f: a > b > c, x [2/3]: a |- c"),
                         {claims("x [2/3]: a |- a", "|- b"), claims("x [1/3]: a |- a", "x [1/3]: a |- b"),
                          claims("|- a", "x [2/3]: a |- b")})

    def test_stock_and_prices_in_stock(self):
        self.assertEqual(ends_of("f: a [2/1] > c, x [5/3]: a |- c"), {claims("x [2/2]: a |- a")})
        self.assertEqual(ends_of("f: a [2/3] > c, x [5/3]: a |- c"), {claims("x [2/0]: a |- a")})
        self.assertEqual(ends_of("f: a [2/4] > c, x [5/3]: a |- c"), {claims("|- a")})
        self.assertEqual(ends_of("f: a [2/0] > c, x [1/3]: a |- c"), {claims("|- a")})
        self.assertEqual(ends_of("f: a [2/0] > c, x [2/3]: a |- c"), {claims("x [1/3]: a |- a")})

    def test_none_of_the_numbers_could_be_greater(self):
        # Each use there takes away 2 for a and 3 for b: (1, 1) takes all 5, (2, 0) takes 4, (0, 1) leaves 2 for a.
        self.assertEqual(ends_of("f: a [2/0] > b [3/0] > c, x [5/0]: a |- c"),
                         {claims("x [1/0]: a |- a", "x [1/0]: a |- b"), claims("x [2/0]: a |- a", "|- b")})
        # Two uses are left over by a price that needs three, but the other price takes them.
        self.assertEqual(ends_of("f: a [3/0] > b > c, x [5/0]: a |- c"),
                         {claims("x [1/0]: a |- a", "x [2/0]: a |- b"), claims("|- a", "x [5/0]: a |- b")})
        self.assertEqual(ends_of("f: a [3/9] > b > c, x [5/0]: a |- c"), {claims("|- a", "x [5/0]: a |- b")})
        self.assertEqual(ends_of("f: a [3/0] > b [2/9] > c, x [5/0]: a |- c"), {claims("x [1/0]: a |- a", "|- b")})

    def test_several_pairs(self):
        self.assertEqual(len(ends_of("f: a > b > c, x [2/3]: a, y [1/0]: b, z: d |- c")), 3 * 2 * 2)
        self.assertEqual(len(ends_of("f: a > b > c, x [2/3]: a, y [2/3]: a |- c")), 6)
        self.assertEqual(len(ends_of("f: a > b > c, x: a, y: a |- c")), 3)

    def test_equal_pairs_share_without_repetition(self):
        for text, count in [("f: a > b > c > d, x [2/3]: a, y [2/3]: a |- d", 21), ("f: a > b > c > d, x: a, y: a |- d", 6),
                            ("f: a > b > c > d, x [1/3]: a, y [1/3]: a, z [1/3]: a |- d", 10),
                            ("f: a > b [2/0] > c [3/1] > d, x [5/3]: a, y [5/3]: a, z [4/3]: a |- d", None)]:
            pairs, goal = bare_claim(parse_claim(text))
            found = [tuple(end) for end in ends(Library(), pairs, goal)]
            self.assertEqual(set(found), set(map(tuple, plain_ends(Library(), pairs, goal))))
            if count is not None:
                self.assertEqual((len(found), len(set(found))), (count, count))

    def test_equal_pairs_may_be_spent_once_each(self):
        self.assertEqual(ends_of("f: a > c, g: a > c |- c"), {claims("f: a > c |- a")})
        self.assertEqual(ends_of("f [2/0]: a > c, g [2/0]: a > c |- c"), {claims("f [2/0]: a > c, g [1/0]: a > c |- a")})
        self.assertEqual(len(ends_of("f [2/0]: a > c, g [2/1]: a > c |- c")), 2)

    def test_pairs_as_a_list_or_a_tuple_in_any_order(self):
        source = random.Random(65)
        for _ in range(50):
            library, claim = draw_library(source), draw_claim(source, 4, 2)
            pairs = list(bare_claim(claim)[0])
            expected = ends(library, tuple(pairs), claim[1])
            source.shuffle(pairs)
            self.assertEqual(ends(library, pairs, claim[1]), expected)
            self.assertEqual(ends(library, tuple(pairs), claim[1]), expected)

    def test_against_the_definition(self):
        source = random.Random(63)
        for _ in range(600):
            library, (pairs, goal) = draw_library(source), bare_claim(draw_claim(source, 4, 2))
            found, expected = ends(library, pairs, goal), plain_ends(library, pairs, goal)
            self.assertEqual(set(map(tuple, found)), set(map(tuple, expected)))
            self.assertLessEqual(len(found), len(expected))
            for end in found:
                self.assertEqual(end, [bare(*premise) for premise in end])

    def test_lists_are_new(self):
        for text in ["f: a > b > c, x [2/3]: a |- c", "x: a |- a > a", "x: a |- a & a", "x: a |- a"]:
            pairs, goal = bare_claim(parse_claim(text))
            check_new(self, lambda pairs: ends(Library(), pairs, goal), list(pairs))


if __name__ == "__main__":
    unittest.main()
