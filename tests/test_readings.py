"""Points 51 to 55: readings."""

import random
import unittest

from drawing import draw_bare, draw_derivation, draw_full_library
from helper import error_of, holds_no_list, tower
from heldproofs.checking import accepts
from heldproofs.claimtext import parse_claim
from heldproofs.library import Library
from heldproofs.readings import alike, read_bare, settled_from
from heldproofs.rows import is_bare
from heldproofs.rowtext import format_derivation, parse_derivation
from heldproofs.running import finish, run
from heldproofs.tallies import greatest_play, tally
from plain import is_settled
from plainreading import plain_reading, plain_settled


def head(ref, *actions):
    return ("head", ref, actions)


def pay(reading, kind="once"):
    return ("pay", kind, reading)


# A bare derivation, its reading, and its settled form if it is another one.
READINGS = [
    ("own x", head("x"), None),
    ("take own #0", ("take", head(0)), None),
    ("take take own #0", ("take", ("take", head(0))), None),
    ("take take own #1", ("take", ("take", head(1))), None),
    ("offer own x own y", ("offer", head("x"), head("y")), None),
    ("make w 3 own x", ("make", "w", 3, head("x")), None),
    ("pick x right own #0", head("x", ("pick", "right")), None),
    ("open x w 2 own #0", head("x", ("open", "w", 2)), None),
    ("pay f [2/1] own s own #0", head("f", pay(head("s"), (2, 1))), None),
    ("pick x left open #0 w 0 pay #1 once own s pick #2 right own #3",
     head("x", ("pick", "left"), ("open", "w", 0), pay(head("s")), ("pick", "right")), None),
    ("pay f once own s pay #0 once own t own #1", head("f", pay(head("s")), pay(head("t"))), None),
    # Rows that are independent of what is on top of them.
    ("pick x left take own #0", ("take", head("x", ("pick", "left"))), "take pick x left own #1"),
    ("pick x left offer own #0 own #0",
     ("offer", head("x", ("pick", "left")), head("x", ("pick", "left"))),
     "offer pick x left own #0 pick x left own #0"),
    ("pick x left make w 0 own #0", ("make", "w", 0, head("x", ("pick", "left"))), "make w 0 pick x left own #0"),
    ("pick x left pay f once own #0 own #1", head("f", pay(head("x", ("pick", "left")))),
     "pay f once pick x left own #0 own #0"),
    ("pick x left pay f once own s pay #1 once own #0 own #2",
     head("f", pay(head("s")), pay(head("x", ("pick", "left")))),
     "pay f once own s pay #0 once pick x left own #1 own #1"),
    ("pick x left pick y left pay f once own #0 pay #2 once own #1 own #3",
     head("f", pay(head("x", ("pick", "left"))), pay(head("y", ("pick", "left")))),
     "pay f once pick x left own #0 pay #0 once pick y left own #1 own #1"),
    # A hold that a take brings inside of what is paid: the takes around the place of use count.
    ("take pay f once take own #1 pay #1 once own #0 own #2",
     ("take", head("f", pay(("take", head(1))), pay(head(0)))), None),
    ("pay f once take own #0 take take own #0",
     ("take", ("take", head("f", pay(("take", head(2)))))), "take take pay f once take own #2 own #2"),
    ("take pay f once take pay #0 once own #1 own #2 take own #1",
     ("take", ("take", head("f", pay(("take", head(0, pay(head(2)))))))),
     "take take pay f once take pay #0 once own #2 own #3 own #2"),
    ("pay f once take pay g once take own #1 own #1 pay #0 once take own #1 take own #1",
     ("take", head("f", pay(("take", head("g", pay(("take", head(2)))))), pay(("take", head(1))))),
     "take pay f once take pay g once take own #2 own #2 pay #1 once take own #2 own #2"),
    ("pay f once take own #0 offer own #0 take own #0",
     ("offer", head("f", pay(("take", head(0)))), ("take", head("f", pay(("take", head(1)))))),
     "offer pay f once take own #0 own #0 take pay f once take own #1 own #1"),
    # Names may be those of rows and sides.
    ("pick own left open #0 own 0 own #1", head("own", ("pick", "left"), ("open", "own", 0)), None),
]


class ReadingTest(unittest.TestCase):
    def test_example_of_the_interface(self):
        self.assertEqual(
            read_bare(parse_derivation("take pay f once take own #1 pay #1 once own #0 own #2")),
            ("take", ("head", "f", (("pay", "once", ("take", ("head", 1, ()))), ("pay", "once", ("head", 0, ()))))))

    def test_each_row(self):
        for text, reading, settled in READINGS:
            derivation = parse_derivation(text)
            found = read_bare(derivation)
            self.assertEqual(found, reading, text)
            self.assertTrue(holds_no_list(found))
            self.assertEqual(plain_reading(derivation), reading)
            self.assertEqual(format_derivation(settled_from(found)), settled or text)
            self.assertEqual(read_bare(settled_from(found)), reading)
            self.assertTrue(holds_no_list(settled_from(found)))
            self.assertTrue(is_settled(settled_from(found)))

    def test_settled_from_each_form(self):
        for reading, text in [
            (head("x"), "own x"),
            (("take", head(0)), "take own #0"),
            (("offer", head("x"), ("take", head("y"))), "offer own x take own y"),
            (("make", "w", 1, head("x")), "make w 1 own x"),
            (head("x", ("pick", "left"), ("open", "w", 1), ("pick", "right")),
             "pick x left open #0 w 1 pick #1 right own #2"),
            (("take", head(0, pay(head("s"), (3, 0)), ("pick", "left"))),
             "take pay #0 [3/0] own s pick #1 left own #2"),
            (head("f", pay(("take", ("take", head(1, pay(head(0)))))), pay(("take", head(0)))),
             "pay f once take take pay #1 once own #0 own #2 pay #0 once take own #1 own #1"),
        ]:
            self.assertEqual(format_derivation(settled_from(reading)), text)
            self.assertEqual(read_bare(parse_derivation(text)), reading)

    def test_not_bare(self):
        for text, path in [
            ("cite e", ()), ("cut once (a) own x own #0", ()), ("take cite e", (0,)),
            ("offer own x cite e", (1,)), ("offer cite e cut once (a) own x own #0", (0,)),
            ("pay f once own s cut once (a) cite e own #1", (1,)), ("pay f once take make w 0 cite e cite e", (0, 0, 0)),
            ("cut once (a) cite e cite f", ()), ("pick x left offer cut once (a) own x own #1 cite e", (0, 0)),
        ]:
            derivation = parse_derivation(text)
            self.assertEqual(error_of(read_bare, derivation), ("NotBare", {"path": path}))
            self.assertEqual(error_of(alike, derivation, parse_derivation("own x")), ("NotBare", {"path": path}))
            self.assertEqual(error_of(alike, parse_derivation("own x"), derivation), ("NotBare", {"path": path}))

    def test_which_is_not_bare_first(self):
        first, second = parse_derivation("take cite e"), parse_derivation("offer own x cite e")
        self.assertEqual(error_of(alike, first, second), ("NotBare", {"path": (0,)}))
        self.assertEqual(error_of(alike, second, first), ("NotBare", {"path": (1,)}))

    def test_alike(self):
        same = [
            ["own x"],
            ["pick x left take own #0", "take pick x left own #1"],
            ["pick x left pick y left pay f once own #0 pay #2 once own #1 own #3",
             "pick y left pick x left pay f once own #1 pay #2 once own #0 own #3",
             "pick x left pay f once own #0 pick y left pay #1 once own #2 own #3",
             "pay f once pick x left own #0 pay #0 once pick y left own #1 own #1"],
            ["pick x left pick y left pay f once own #1 pay #2 once own #0 own #3"],
            ["pick x right take own #0"], ["take own #0"], ["take own x"],
            ["offer own x own y"], ["offer own y own x"], ["make w 0 own x"], ["make w 1 own x"], ["make v 0 own x"],
            ["open x w 0 own #0"], ["open x w 1 own #0"], ["pay f once own s own #0"], ["pay f [1/0] own s own #0"],
            ["offer own x own x"], ["pick x left own #0"], ["pick x left pick #0 left own #1"],
            ["pick x left offer own #0 own #0", "offer pick x left own #0 pick x left own #0"],
        ]
        for group, texts in enumerate(same):
            for other, others in enumerate(same):
                for first in texts:
                    for second in others:
                        found = alike(parse_derivation(first), parse_derivation(second))
                        self.assertIs(found, group == other, (first, second))

    def test_deep(self):
        for derivation in tower(400):
            if is_bare(derivation):
                self.assertTrue(alike(derivation, derivation))
                self.assertEqual(settled_from(read_bare(derivation)) == derivation, derivation[0] != "pay")

    def test_drawn(self):
        source = random.Random(52)
        unsettled = 0
        for _ in range(250):
            library, claim, derivation = draw_bare(source, source.choice([4, 5, 6]))
            self.assertTrue(accepts(library, claim, derivation))
            reading = read_bare(derivation)
            self.assertEqual(reading, plain_reading(derivation))
            settled = settled_from(reading)
            self.assertEqual(settled, plain_settled(reading))
            self.assertEqual(read_bare(settled), reading)
            self.assertTrue(accepts(library, claim, settled))
            self.assertTrue(is_settled(settled))
            self.assertTrue(alike(derivation, settled))
            unsettled += settled != derivation
        self.assertGreater(unsettled, 50)


class EndsOfRunsTest(unittest.TestCase):
    def test_several_ends_of_one_derivation(self):
        derivation = parse_derivation(
            "cut once (a) pick x left own #0 cut [2/0] (b) pick y left own #1 "
            "pay f once own #0 pay #2 once own #1 pay #3 once own #1 own #4")
        claim = parse_claim("x: a & c, y [2/0]: b & c, f: a > b > b > d |- d")
        self.assertTrue(accepts(Library(), claim, derivation))
        found = {}
        for first in range(4):
            for second in range(4):
                for third in range(4):
                    ended = run(Library(), derivation, [first, second, third])[0]
                    self.assertTrue(accepts(Library(), claim, ended))
                    found[ended] = read_bare(ended)
        self.assertGreater(len(found), 1)
        self.assertEqual(len(set(found.values())), 1)
        last = list(found)[-1]
        self.assertTrue(all([alike(ended, last) for ended in found]))

    def test_they_have_one_reading(self):
        # Point 55.
        source = random.Random(55)
        different = 0
        for _ in range(250):
            library = draw_full_library(source)
            claim, derivation = draw_derivation(source, library, source.choice([3, 4, 5]))
            first = tally(library, derivation)
            if first.load > 500 or first.rows > 2000 or greatest_play(library, derivation) > 150:
                continue
            ended = [finish(library, derivation)]
            for _ in range(4):
                choices = [source.randrange(20) for _ in range(source.randrange(9))]
                ended.append(run(library, derivation, choices)[0])
            if not library.is_whole and not all(map(is_bare, ended)):
                continue
            for other in ended:
                self.assertEqual(read_bare(other), read_bare(ended[0]))
                self.assertTrue(alike(ended[0], other))
            different += len(set(ended)) > 1
        self.assertGreater(different, 0)


if __name__ == "__main__":
    unittest.main()
