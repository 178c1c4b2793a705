"""Points 43 and 49: ranks and losses."""

import random
import unittest

from drawing import Drawing, draw_library, draw_sentence
from helper import error_of
from heldproofs.checking import accepts, claim_at
from heldproofs.inverting import expanded
from heldproofs.library import Library
from heldproofs.ranks import loss, rank
from heldproofs.rows import is_bare, part, row_count, walk
from heldproofs.running import finish, run
from heldproofs.sentences import word
from heldproofs.sentencetext import parse_sentence
from plain import plain_rank


def sentences(*texts):
    return [parse_sentence(text) for text in texts]


class RankTest(unittest.TestCase):
    def check(self, library, text, expected):
        self.assertEqual(rank(library, parse_sentence(text)), expected)

    def test_without_definitions(self):
        for text, expected in [("a", 1), ("a & b", 1), ("a > b", 2), ("a [1/9] > b", 2), ("a [3/0] > b", 4),
                               ("a > b > c", 3), ("(a > b) & c", 2), ("c & (a > b)", 2), ("(a > b) [5/5] > a & a", 11),
                               ("(a [2/0] > b) [3/0] > c", 10), ("a [400/0] > b [400/0] > c", 801)]:
            self.check(Library(), text, expected)

    def test_defined_words(self):
        library = Library()
        library.define("w", makes=sentences("a", "a > b"), opens=sentences("a > b > c", "a"))
        library.define("m", makes=sentences("a > b"))
        library.define("o", opens=sentences("a & b"))
        library.define("n")
        library.define("v", makes=sentences("w", "m"), opens=sentences("w [2/0] > o"))
        for text, expected in [("w", 1 + 2 + 3), ("m", 3), ("o", 2), ("n", 1), ("v", 1 + 6 + 14), ("a", 1),
                               ("w & a", 6), ("w > v", 27), ("w [2/0] > m", 15)]:
            self.check(library, text, expected)
        library.undefine("v")
        self.check(library, "v", 1)

    def test_words_that_occur_often_are_reckoned_once(self):
        library = Library()
        inner, expected = "a", 1
        for name in ["w1", "w2", "w3", "w4", "w5", "w6", "w7", "w8"]:
            often = " & ".join([inner] * 40)
            library.define(name, makes=sentences(often), opens=sentences(often + " > b"), limit=0)
            inner, expected = name, 1 + expected + expected + 1
            self.assertEqual(rank(library, word(name)), expected)

    def test_against_the_definition(self):
        source = random.Random(43)
        for _ in range(200):
            library, sentence = draw_library(source), draw_sentence(source, 4)
            self.assertEqual(rank(library, sentence), plain_rank(library, sentence))


class LossTest(unittest.TestCase):
    def test_values(self):
        for text, expected in [("a", 1), ("a > b", 4), ("a > b > c", 7), ("(a > b) > c", 7),
                               ("(a > b) > b > a", 2 + 4 + 4), ("((a > b) > c) > d", 10)]:
            self.assertEqual(loss(parse_sentence(text)), expected)

    def test_not_simple(self):
        for text in ["a & b", "a [1/0] > b", "a > b & c", "a & b > c", "a > b [1/0] > c", "(a [2/3] > b) > c",
                     "a > b > c > (a & d)", "((a & b) > c) > d", "(a > b > (c [1/0] > d)) > a"]:
            self.assertEqual(error_of(loss, parse_sentence(text)), ("NotSimple", {}))

    def test_rows_of_the_ends_of_runs(self):
        """The promise of point 49 about rows own, take, pay and cut of the kind once."""
        source = random.Random(49)
        tried = 0
        for _ in range(800):
            found = self.simple(source)
            if found is None:
                continue
            claim, derivation = found
            names = [name for path, name in walk(derivation)]
            lost = sum([loss(part(derivation, path)[2]) for path, name in walk(derivation) if name == "cut"])
            expected = len(names) - names.count("cut") - lost
            choices = [source.randrange(7) for _ in range(5)]
            for ended in [finish(Library(), derivation), run(Library(), derivation, choices)[0]]:
                self.assertTrue(is_bare(ended))
                self.assertEqual(row_count(ended), expected)
            tried += lost > 4
        self.assertGreater(tried, 50)

    def simple(self, source):
        """A claim and a derivation as point 49 asks for, or None if the draw is no such one."""
        goal = source.choice(sentences("a", "a > a", "a > b", "(a > b) > b"))
        row, held = SimpleDrawing(source, Library()).part(goal, source.choice([3, 4, 5]))
        claim = (tuple([(name, "once", sentence) for name, sentence in held.items()]), goal)
        if not accepts(Library(), claim, row):
            return None
        derivation = expanded(Library(), claim, row)
        for path, name in walk(derivation):
            assert name in ("own", "take", "pay", "cut")
            if name == "own":
                assert claim_at(Library(), claim, derivation, path)[1][0] == "word"
        return claim, derivation


class SimpleDrawing(Drawing):
    """Parts of rows own, take, pay and cut, with the kind once alone."""

    def part(self, goal, depth):
        shapes = ["own"] if depth == 0 else ["cut", "cut", "pay"] + ["take"] * (6 if goal[0] == "trade" else 0)
        shape = self.random.choice(shapes)
        if shape == "own":
            name = self.new_name()
            return ("own", name), {name: goal}
        return getattr(self, shape)(goal, depth - 1)

    def pay(self, goal, depth):
        row, held = self.part(goal, depth)
        if not held:
            return row, held
        name, ref = self.random.choice(list(held)), self.new_name()
        trade = ("trade", "once", self.random.choice(sentences("a", "b", "a > b")), held[name])
        paid, more = self.part(trade[2], depth)
        row, held = self.bound(("pay", ref, "once", paid), row, held, name)
        return row, held | more | {ref: trade}

    def cut(self, goal, depth):
        row, held = self.part(goal, depth)
        if not held:
            return row, held
        name = row[1] if row[0] == "pay" and self.random.random() < 0.7 else self.random.choice(list(held))
        source, more = self.part(held[name], depth)
        row, held = self.bound(("cut", "once", held[name], source), row, held, name)
        return row, held | more


if __name__ == "__main__":
    unittest.main()
