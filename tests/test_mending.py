"""Points 33 to 36: mending claims and derivations."""

import random
import unittest

from drawing import draw_derivation, draw_full_library
from helper import error_of, holds_no_list
from heldproofs.checking import accepts
from heldproofs.claims import hold_of
from heldproofs.claimtext import parse_claim
from heldproofs.mending import abstracted, least_kinds, pooled_holds, with_room
from heldproofs.rowtext import parse_derivation

A, B = ("word", "a"), ("word", "b")


def drawn(seed, count):
    """Libraries with claims and derivations that show them."""
    source = random.Random(seed)
    for _ in range(count):
        library = draw_full_library(source)
        yield (source, library) + draw_derivation(source, library, source.choice([2, 3, 4]))


class WithRoomTest(unittest.TestCase):
    def test_kinds_that_cover(self):
        claim = parse_claim("x: a, y [2/1]: b |- a")
        for name, kind, text in [
            ("x", "once", "x: a, y [2/1]: b |- a"), ("x", (1, 0), "x [1/0]: a, y [2/1]: b |- a"),
            ("x", (7, 7), "x [7/7]: a, y [2/1]: b |- a"), ("y", (2, 1), "x: a, y [2/1]: b |- a"),
            ("y", (3, 1), "x: a, y [3/1]: b |- a"), ("y", (2, 9), "x: a, y [2/9]: b |- a"),
        ]:
            self.assertEqual(with_room(claim, name, kind), parse_claim(text))
            self.assertTrue(holds_no_list(with_room(claim, name, kind)))

    def test_errors(self):
        claim = parse_claim("x: a, y [2/1]: b |- a")
        for name, kind in [("y", "once"), ("y", (1, 1)), ("y", (2, 0)), ("y", (1, 9)), ("y", (9, 0))]:
            self.assertEqual(error_of(with_room, claim, name, kind), ("NoRoom", {"name": name}))
        for kind in ["once", (1, 0)]:
            self.assertEqual(error_of(with_room, claim, "z", kind), ("UnknownName", {"name": "z"}))

    def test_a_derivation_shows_the_claim_with_more_room(self):
        for source, library, claim, derivation in drawn(33, 60):
            for name, kind, sentence in claim[0]:
                uses, days = (1, 0) if kind == "once" else kind
                room = (uses + source.randrange(3), days + source.randrange(3))
                mended = with_room(claim, name, room)
                self.assertEqual(hold_of(mended, name), (room, sentence))
                self.assertTrue(accepts(library, mended, derivation))
                claim = mended


class PooledHoldsTest(unittest.TestCase):
    def test_joined(self):
        claim = parse_claim("f: a > a > b, x [1/2]: a, z: c, y [2/1]: a |- b")
        derivation = parse_derivation("pay f once own x pay #0 once own y own #1")
        self.assertEqual(pooled_holds(claim, derivation, "x", "y"),
                         (parse_claim("f: a > a > b, x [3/2]: a, z: c |- b"),
                          parse_derivation("pay f once own x pay #0 once own x own #1")))
        self.assertEqual(pooled_holds(claim, derivation, "y", "x"),
                         (parse_claim("f: a > a > b, z: c, y [3/2]: a |- b"),
                          parse_derivation("pay f once own y pay #0 once own y own #1")))

    def test_errors(self):
        claim = parse_claim("x [1/2]: a, y [2/1]: b, z: a, w [1/0]: a, u: a |- b")
        derivation = ("own", "y")
        for first, second, error in [
            ("p", "q", ("UnknownName", {"name": "p"})), ("p", "x", ("UnknownName", {"name": "p"})),
            ("x", "q", ("UnknownName", {"name": "q"})), ("z", "q", ("UnknownName", {"name": "q"})),
            ("p", "p", ("UnknownName", {"name": "p"})), ("x", "x", ("NoRoom", {"name": "x"})),
            ("x", "y", ("NoRoom", {"name": "y"})), ("x", "z", ("NoRoom", {"name": "z"})),
            ("z", "x", ("NoRoom", {"name": "x"})), ("z", "u", ("NoRoom", {"name": "u"})),
            ("z", "z", ("NoRoom", {"name": "z"})), ("x", "w", None),
        ]:
            self.assertEqual(error_of(pooled_holds, claim, derivation, first, second), error)

    def test_the_result_shows_the_claim(self):
        joined = 0
        for source, library, claim, derivation in drawn(34, 150):
            stock = [(name, sentence) for name, kind, sentence in claim[0] if kind != "once"]
            for first, sentence in stock:
                for second, other in stock:
                    if first != second and sentence == other:
                        self.assertTrue(accepts(library, *pooled_holds(claim, derivation, first, second)))
                        joined += 1
        self.assertGreater(joined, 5)


class LeastKindsTest(unittest.TestCase):
    def test_kinds(self):
        for claim, derivation, expected in [
            ("x [9/9]: a |- a", "own x", "x [1/0]: a |- a"),
            ("y [9/9]: b, x [9/9]: a, z [1/0]: c |- a", "own x", "x [1/0]: a |- a"),
            ("x: a |- a", "own x", "x: a |- a"),
            ("f: a [2/3] > b, x [9/9]: a |- b", "pay f [2/3] own x own #0", "f: a [2/3] > b, x [2/3]: a |- b"),
            ("x [9/9]: a |- a & a", "offer own x own x", "x [1/0]: a |- a & a"),
            ("s [3/0]: b |- a > a", "take own #0", "|- a > a"),
            # A hold that is held once stays, also where it does not occur.
            ("s: b, x [2/0]: a |- a", "own x", "s: b, x [1/0]: a |- a"),
        ]:
            told = (parse_claim(claim), parse_derivation(derivation))
            self.assertEqual(least_kinds(*told), parse_claim(expected))

    def test_none_can_be_made_smaller(self):
        for source, library, claim, derivation in drawn(35, 100):
            least = least_kinds(claim, derivation)
            self.assertTrue(accepts(library, least, derivation))
            self.assertEqual(least_kinds(least, derivation), least)
            self.assertEqual([hold for hold in least[0] if hold[1] == "once"],
                             [hold for hold in claim[0] if hold[1] == "once"])
            for at, (name, kind, sentence) in enumerate(least[0]):
                if kind != "once":
                    for smaller in [(kind[0] - 1, kind[1]), (kind[0], kind[1] - 1)]:
                        holds = least[0][:at] + ((name, smaller, sentence),) + least[0][at + 1:]
                        self.assertFalse(accepts(library, (holds, least[1]), derivation))


class AbstractedTest(unittest.TestCase):
    def test_each_kind(self):
        claim = parse_claim("f: a [2/1] > b, s [3/2]: a |- b")
        derivation = parse_derivation("pay f [2/1] own s own #0")
        self.assertEqual(abstracted(claim, derivation, "s"),
                         (parse_claim("f: a [2/1] > b |- a [3/2] > b"),
                          parse_derivation("take pay f [2/1] own #0 own #1")))
        self.assertEqual(abstracted(claim, derivation, "f"),
                         (parse_claim("s [3/2]: a |- (a [2/1] > b) > b"),
                          parse_derivation("take pay #0 [2/1] own s own #1")))

    def test_errors(self):
        claim = parse_claim("x: a |- a")
        for name in ["y", "a", ""]:
            self.assertEqual(error_of(abstracted, claim, ("own", "x"), name), ("UnknownName", {"name": name}))

    def test_the_result_shows_the_claim(self):
        for source, library, claim, derivation in drawn(36, 60):
            while claim[0]:
                name, kind, sentence = source.choice(claim[0])
                mended, derivation = abstracted(claim, derivation, name)
                self.assertEqual(mended[1], ("trade", kind, sentence, claim[1]))
                self.assertEqual([hold for hold in claim[0] if hold[0] != name], list(mended[0]))
                self.assertTrue(accepts(library, mended, derivation))
                claim = mended


if __name__ == "__main__":
    unittest.main()
