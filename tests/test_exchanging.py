"""Points 56 to 58: exchanges of rows."""

import random
import unittest

from drawing import draw_bare, scrambled
from helper import check_new, error_of, holds_no_list
from heldproofs.checking import accepts
from heldproofs.claimtext import parse_claim
from heldproofs.exchanging import chain, exchange, exchange_paths, settle, settling
from heldproofs.library import Library
from heldproofs.moving import moved
from heldproofs.readings import alike, read_bare, settled_from
from heldproofs.rows import with_part
from heldproofs.rowtext import format_derivation, parse_derivation
from heldproofs.sentencetext import parse_sentence
from plain import is_settled
from plainreading import plain_exchanges

# What an exchange at the root makes of a derivation: claim, before, after.
EXCHANGES = [
    # R is take: the hold of take and that of L change their levels.
    ("x: a & b |- c > d", "pick x left take pay f once own #0 pay #2 once own #1 own #3",
     "take pick x left pay f once own #1 pay #2 once own #0 own #3"),
    ("", "pick x left take own #0", "take pick x left own #1"),
    ("", "open x w 1 take take pick #0 left own #3", "take open x w 1 take pick #1 left own #3"),
    ("", "pay f once own s take own #0", "take pay f once own s own #1"),
    # R is pick or open.
    ("", "pick x left pick y right pay #0 once own #1 own #2", "pick y right pick x left pay #1 once own #0 own #2"),
    ("", "pick x left open y w 3 offer own #0 own #1", "open y w 3 pick x left offer own #1 own #0"),
    ("", "open x w 0 pick y left own #0", "pick y left open x w 0 own #1"),
    ("", "pay f [2/0] own s pick y left own #0", "pick y left pay f [2/0] own s own #1"),
    # R is offer.
    ("", "pick x left offer own #0 take own #0", "offer pick x left own #0 pick x left take own #0"),
    ("", "pay f once take own #0 offer take own #1 own #0",
     "offer pay f once take own #0 take own #1 pay f once take own #0 own #0"),
    ("", "open x w 0 offer own y own #0", "offer open x w 0 own y open x w 0 own #0"),
    # R is make.
    ("", "pick x right make w 2 take own #1", "make w 2 pick x right take own #1"),
    ("", "pay f (k) own s make w 0 own #0", "make w 0 pay f (k) own s own #0"),
    # R is pay: the hold of L is used in what is paid, or in the body.
    ("", "pick x left pay f once own #0 own #1", "pay f once pick x left own #0 own #0"),
    ("", "pick x left pay f (k) take pay #0 once own #1 own #2 take pay #1 once own #2 own #3",
     "pay f (k) pick x left take pay #0 once own #1 own #2 take pay #0 once own #1 own #2"),
    ("", "pick x left pay f once own s own #0", "pay f once own s pick x left own #1"),
    ("", "pick x left pay f once take own #1 take pay #0 once own #1 pay #3 once own #2 own #4",
     "pay f once take own #0 pick x left take pay #1 once own #0 pay #3 once own #2 own #4"),
    ("", "open x w 0 pay f once own s pick #0 left own #2", "pay f once own s open x w 0 pick #1 left own #2"),
    # L is pay, too: what it pays moves to another level with it, or does not.
    ("", "pay f once take own #0 take own #0", "take pay f once take own #1 own #1"),
    ("", "pay f once take own #0 pick y left own #0", "pick y left pay f once take own #1 own #1"),
    ("", "pay f once take own #0 pay g once own s own #0", "pay g once own s pay f once take own #1 own #1"),
    ("", "pay f once take own #0 pay g once own #0 own #1", "pay g once pay f once take own #0 own #0 own #0"),
    ("", "pay f once take own #0 make w 0 own #0", "make w 0 pay f once take own #0 own #0"),
]


class ExchangeTest(unittest.TestCase):
    def parse(self, text):
        return parse_derivation(text.replace("(k)", "[2/1]"))

    def test_example_of_the_interface(self):
        first = parse_derivation("pick x left pick y left pay f once own #0 pay #2 once own #1 own #3")
        self.assertEqual(format_derivation(settle(first)),
                         "pay f once pick x left own #0 pay #0 once pick y left own #1 own #1")

    def test_at_the_root(self):
        for _, before, after in EXCHANGES:
            before, after = self.parse(before), self.parse(after)
            self.assertIn((), exchange_paths(before))
            self.assertEqual(format_derivation(exchange(before, ())), format_derivation(after))
            self.assertEqual(exchange(before, ()), after)
            self.assertTrue(holds_no_list(exchange(before, ())))

    def test_at_higher_levels(self):
        for _, before, after in EXCHANGES:
            before, after = self.parse(before), self.parse(after)
            for level in (1, 3):
                # The names below stand for holds of rows below.
                names = {"f": level - 1, "x": 0}
                higher, changed = moved(before, 0, level, names), moved(after, 0, level, names)
                path = ()
                for _ in range(level):
                    higher, changed, path = ("take", higher), ("take", changed), path + (0,)
                self.assertIn(path, exchange_paths(higher))
                self.assertEqual(exchange(higher, path), changed)
                rows = [(("offer", ("own", "z")), 1, ()), (("pay", "q", (3, 0)), 0, (("own", 0),)), (("make", "v", 0), 0, ())]
                for row, index, rest in rows:
                    whole, result = row + (higher,) + rest, row + (changed,) + rest
                    self.assertIn((index,) + path, exchange_paths(whole))
                    self.assertEqual(exchange(whole, (index,) + path), result)

    def test_no_exchange(self):
        for text in ["own x", "take own #0", "offer own x own y", "make w 0 own x", "pick x left own #0",
                     "pick x left pick #0 left own #1", "open x w 0 pay #0 once own s own #1",
                     "pay f once own s own #0", "pay f once own s pay #0 once own t own #1", "take pick #0 left own #1",
                     "take take offer own #0 own #1"]:
            derivation = parse_derivation(text)
            self.assertEqual(exchange_paths(derivation), [])
            for path in [(), (0,), (1,), (2,), (-1,), (0, 0), (0, 1), (1, 0), (5, 5, 5)]:
                self.assertEqual(error_of(exchange, derivation, path), ("NoStep", {"path": path, "way": "exchange"}))
            self.assertEqual(settling(derivation), [derivation])
            self.assertEqual(settle(derivation), derivation)

    def test_own_of_another_hold(self):
        # No derivation of a claim has this, but own is never exchanged.
        for text in ["pick x left own y", "open x w 0 own x", "pay f once own s own s"]:
            derivation = parse_derivation(text)
            self.assertEqual(exchange_paths(derivation), [])
            self.assertEqual(error_of(exchange, derivation, ()), ("NoStep", {"path": (), "way": "exchange"}))

    def test_where_there_is_none_beside_others(self):
        derivation = parse_derivation("pick x left take pick #0 right own #2")
        self.assertEqual(exchange_paths(derivation), [()])
        for path in [(0,), (0, 0), (0, 0, 0), (0, 0, 0, 0), (1,), (-1,)]:
            self.assertEqual(error_of(exchange, derivation, path), ("NoStep", {"path": path, "way": "exchange"}))

    def test_paths_in_preorder(self):
        derivation = parse_derivation(
            "pick x left pay f once open y w 0 make v 0 own #1 offer pick z left take own #2 pick #0 left take own #3")
        self.assertEqual(exchange_paths(derivation), [(), (0,), (0, 0), (0, 1, 0), (0, 1, 1)])
        check_new(self, exchange_paths, derivation)

    def test_not_bare(self):
        for text, path in [("cite e", ()), ("take cite e", (0,)), ("pick x left take cite e", (0, 0)),
                           ("pick x left offer cut once (a) own #0 cite e cite e", (0, 0)),
                           ("cut once (a) pick x left take own #0 own #0", ())]:
            derivation = parse_derivation(text)
            error = ("NotBare", {"path": path})
            for call in [exchange_paths, settling, settle]:
                self.assertEqual(error_of(call, derivation), error)
            for place in [(), (0,), (7,), (0, 0)]:
                self.assertEqual(error_of(exchange, derivation, place), error)

    def test_drawn(self):
        source = random.Random(56)
        several = 0
        for _ in range(150):
            library, claim, derivation = draw_bare(source, source.choice([4, 5, 6]))
            expected = plain_exchanges(derivation)
            self.assertEqual(exchange_paths(derivation), [path for path, made in expected])
            for path, made in expected:
                found = exchange(derivation, path)
                self.assertEqual(found, with_part(derivation, path, made))
                self.assertTrue(accepts(library, claim, found))
                self.assertTrue(alike(derivation, found))
            self.assertEqual(is_settled(derivation), expected == [])
            several += len(expected) > 1
        self.assertGreater(several, 40)


class SettlingTest(unittest.TestCase):
    def check(self, derivation):
        found = settling(derivation)
        self.assertIs(type(found), list)
        self.assertEqual(found[0], derivation)
        for before, after in zip(found, found[1:]):
            path, made = plain_exchanges(before)[-1]
            self.assertEqual(after, with_part(before, path, made))
        self.assertEqual(plain_exchanges(found[-1]), [])
        self.assertEqual(found[-1], settled_from(read_bare(derivation)))
        self.assertEqual(settle(derivation), found[-1])
        return found

    def test_step_by_step(self):
        first = parse_derivation("pick x left pick y left pay f once own #0 pay #2 once own #1 own #3")
        self.assertEqual([format_derivation(each) for each in self.check(first)], [
            "pick x left pick y left pay f once own #0 pay #2 once own #1 own #3",
            "pick x left pay f once own #0 pick y left pay #1 once own #2 own #3",
            "pick x left pay f once own #0 pay #1 once pick y left own #2 own #2",
            "pay f once pick x left own #0 pay #0 once pick y left own #1 own #1"])

    def test_what_an_offer_doubles(self):
        first = parse_derivation("pick x left take offer pick #0 left own #2 pay #1 once own #0 own #2")
        self.assertEqual([format_derivation(each) for each in self.check(first)], [
            "pick x left take offer pick #0 left own #2 pay #1 once own #0 own #2",
            "take pick x left offer pick #1 left own #2 pay #0 once own #1 own #2",
            "take offer pick x left pick #1 left own #2 pick x left pay #0 once own #1 own #2",
            "take offer pick x left pick #1 left own #2 pay #0 once pick x left own #1 own #1"])

    def test_results_are_new(self):
        first = parse_derivation(ChainTest.FIRST)
        check_new(self, settling, first)
        check_new(self, chain, first, settle(first))
        check_new(self, chain, first, first)

    def test_drawn(self):
        source = random.Random(57)
        longest = 0
        for _ in range(150):
            library, claim, derivation = draw_bare(source, source.choice([4, 5, 6]))
            found = self.check(derivation)
            self.assertEqual(len(found) == 1, exchange_paths(derivation) == [])
            for each in found:
                self.assertTrue(accepts(library, claim, each))
            longest = max(longest, len(found))
        self.assertGreater(longest, 6)

    def test_long(self):
        # 30 picks in front of 25 takes, which are then paid one by one.
        derivation = parse_derivation("own #85")
        for at in reversed(range(30)):
            derivation = ("pay", "f" if at == 0 else 54 + at, "once", ("own", 29 - at), derivation)
        derivation = moved(derivation, 86, 85, {85: 84})
        for _ in range(25):
            derivation = ("take", derivation)
        for at in reversed(range(30)):
            derivation = ("pick", "x" + str(at), "left", derivation)
        trade = goal = parse_sentence("b")
        for at in range(30):
            trade = ("trade", "once", parse_sentence("a"), trade)
        for _ in range(25):
            goal = ("trade", (1, 0), parse_sentence("c"), goal)
        holds = [("x" + str(at), "once", parse_sentence("a & c")) for at in range(30)]
        claim = (tuple(holds) + (("f", "once", trade),), goal)
        self.assertTrue(accepts(Library(), claim, derivation))
        found = settling(derivation)
        self.assertGreater(len(found), 1000)
        self.assertTrue(accepts(Library(), claim, found[-1]))
        self.assertEqual(found[-1], settle(derivation))
        self.assertTrue(is_settled(found[-1]))


class ChainTest(unittest.TestCase):
    FIRST = "pick x left pick y left pay f once own #0 pay #2 once own #1 own #3"
    SECOND = "pick y left pay f once pick x left own #1 pay #1 once own #0 own #2"

    def test_two_that_are_alike(self):
        first, second = parse_derivation(self.FIRST), parse_derivation(self.SECOND)
        settled = "pay f once pick x left own #0 pay #0 once pick y left own #1 own #1"
        self.assertEqual([format_derivation(each) for each in chain(second, first)], [
            self.SECOND,
            "pay f once pick x left own #0 pick y left pay #0 once own #1 own #2",
            settled,
            "pick x left pay f once own #0 pay #1 once pick y left own #2 own #2",
            "pick x left pay f once own #0 pick y left pay #1 once own #2 own #3",
            self.FIRST])
        self.assertEqual(chain(first, second), chain(second, first)[::-1])

    def test_with_itself_and_with_its_settled_form(self):
        first = parse_derivation(self.FIRST)
        there = settling(first)
        self.assertEqual(chain(first, first), there + there[:-1][::-1])
        self.assertEqual(chain(first, there[-1]), there)
        self.assertEqual(chain(there[-1], first), there[::-1])
        self.assertEqual(chain(there[-1], there[-1]), [there[-1]])
        self.assertEqual(chain(("own", "x"), ("own", "x")), [("own", "x")])

    def test_errors(self):
        bare, other = parse_derivation("pick x left take own #0"), parse_derivation("take own #0")
        left, right = parse_derivation("take cite e"), parse_derivation("offer own x cite e")
        self.assertEqual(error_of(chain, left, right), ("NotBare", {"path": (0,)}))
        self.assertEqual(error_of(chain, right, left), ("NotBare", {"path": (1,)}))
        self.assertEqual(error_of(chain, bare, right), ("NotBare", {"path": (1,)}))
        self.assertEqual(error_of(chain, left, bare), ("NotBare", {"path": (0,)}))
        self.assertEqual(error_of(chain, bare, other), ("NotAlike", {}))
        self.assertEqual(error_of(chain, other, bare), ("NotAlike", {}))

    def test_each_link_is_an_exchange(self):
        source = random.Random(58)
        for _ in range(100):
            library, claim, first = draw_bare(source, source.choice([4, 5, 6]))
            second = scrambled(source, first, 12)
            self.assertTrue(accepts(library, claim, second))
            found = chain(first, second)
            self.assertEqual(found, settling(first) + settling(second)[:-1][::-1])
            self.assertEqual((found[0], found[-1]), (first, second))
            for before, after in zip(found, found[1:]):
                self.assertTrue(accepts(library, claim, after))
                there = [exchange(before, path) for path in exchange_paths(before)]
                back = [exchange(after, path) for path in exchange_paths(after)]
                self.assertTrue(after in there or before in back)

    def test_derivations_of_one_claim_that_are_not_alike(self):
        claim = parse_claim("x: a & a, f: a > b |- b")
        first = parse_derivation("pick x left pay f once own #0 own #1")
        second = parse_derivation("pick x right pay f once own #0 own #1")
        for each in [first, second]:
            self.assertTrue(accepts(Library(), claim, each))
        self.assertEqual(error_of(chain, first, second), ("NotAlike", {}))


if __name__ == "__main__":
    unittest.main()
