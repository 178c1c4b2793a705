"""Points 80 to 86: desks."""

import copy
import random
import unittest

from drawing import draw_claim, draw_derivation, draw_full_library, draw_kind, draw_sentence
from helper import error_of, holds_no_list
from heldproofs.checking import accepts, check
from heldproofs.claimtext import format_claim, parse_claim
from heldproofs.counts import counts
from heldproofs.desk import Desk, replay
from heldproofs.library import Library
from heldproofs.moving import moved
from heldproofs.rows import premises
from heldproofs.rowtext import format_derivation, parse_derivation
from heldproofs.searching import search
from heldproofs.sentencetext import parse_sentence

A, B = ("word", "a"), ("word", "b")


def library_of_words():
    library = Library()
    library.define("w", makes=[parse_sentence("a & b"), A], opens=[A, parse_sentence("c > a")])
    library.keep("e", parse_sentence("a > a"), parse_derivation("take own #0"))
    library.keep("k", parse_sentence("a > a"), parse_derivation("cut once (a > a) cite e own #0"))
    return library


def view(desk):
    """All that a desk tells of itself."""
    told = [[(number, desk.goal(number)) for number in desk.numbers()], desk.journal(), len(desk), list(desk),
            desk.is_finished]
    return told + [desk.built() if desk.is_finished else error_of(desk.built)]


class DeskCase(unittest.TestCase):
    def setUp(self):
        self.library = library_of_words()

    def desk(self, text):
        return Desk(self.library, parse_claim(text))

    def opens(self, desk, tactic, *claims):
        """A tactic at goal 0 opens goals with these claims; the journal has the tactic."""
        before = desk.numbers()
        first = max([0] + [number for number in desk.numbers()]) + 1
        found = self.do(desk, tactic)
        self.assertIs(type(found), list)
        self.assertEqual(found, list(range(first, first + len(claims))))
        self.assertEqual([format_claim(desk.goal(number)) for number in found], list(claims))
        self.assertEqual(desk.numbers(), [number for number in before if number != tactic[1]] + found)
        self.assertEqual((len(desk), list(desk)), (len(desk.numbers()), desk.numbers()))
        self.assertEqual(error_of(desk.goal, tactic[1]), ("NoGoal", {"number": tactic[1]}))

    def do(self, desk, tactic):
        """A tactic as in the journal, done by its method."""
        name, told = tactic[0], list(tactic[1:])
        if name == "pay":
            return desk.pay(*told[:3], share=told[3])
        if name == "cut":
            return desk.cut(*told[:3], kind=told[3], share=told[4])
        return getattr(desk, name)(*told)

    def refuses(self, desk, tactic, error, **attributes):
        """A tactic is refused and changes nothing, not even what can be undone or done again."""
        before = view(desk)
        self.assertEqual(error_of(self.do, desk, tactic), (error, attributes), tactic)
        self.assertEqual(view(desk), before)


class GoalsTest(DeskCase):
    def test_example_of_the_interface(self):
        desk = Desk(Library(), parse_claim("f [2/0]: a [2/1] > b, s [5/1]: a |- b & b"))
        goals = desk.offer(0)
        more = desk.pay(1, "f", "g", share=[("s", 2)])
        self.assertEqual([goals, more, desk.goal(3), desk.numbers()],
                         [[1, 2], [3, 4], ((("s", (2, 0), A),), A), [2, 3, 4]])
        self.assertEqual(format_claim(desk.goal(4)), "f [1/0]: a [2/1] > b, s [1/1]: a, g: b |- b")

    def test_a_new_desk(self):
        claim = parse_claim("y: b, x [2/0]: a |- c")
        desk = Desk(self.library, claim)
        self.assertEqual((desk.numbers(), len(desk), list(desk), desk.goal(0)), ([0], 1, [0], claim))
        self.assertTrue(holds_no_list(desk.goal(0)))
        self.assertIs(desk.is_finished, False)
        self.assertEqual(desk.journal(), [])

    def test_no_goal(self):
        desk = self.desk("x: a & b |- a & a")
        for number in [1, 2, -1, 100]:
            self.assertEqual(error_of(desk.goal, number), ("NoGoal", {"number": number}))
        desk.offer(0)
        for number in [0, 3, -1]:
            self.assertEqual(error_of(desk.goal, number), ("NoGoal", {"number": number}))
        # NoGoal comes before every other error.
        for tactic in [("own", 0, "none"), ("take", 0, "X"), ("offer", 0), ("pick", 0, "none", "left", "X"),
                       ("pay", 0, "none", "X", [("none", 0)]), ("make", 0, -1), ("unpack", 0, "none", -1, "X"),
                       ("cut", 0, A, "X", "twice", [("none", 0)]), ("cite", 0, "none"), ("fill", 0, ("own", "none")),
                       ("seek", 0)]:
            for number in [0, 7, -1]:
                self.refuses(desk, (tactic[0], number) + tactic[2:], "NoGoal", number=number)

    def test_numbers_ascend(self):
        desk = self.desk("|- (a > a) & (a > a) & ((a > a) & (a > a))")
        self.assertEqual(desk.offer(0), [1, 2])
        self.assertEqual(desk.offer(2), [3, 4])
        self.assertEqual(desk.offer(1), [5, 6])
        self.assertEqual(desk.take(3, "x"), [7])
        self.assertEqual((desk.numbers(), list(desk)), ([4, 5, 6, 7], [4, 5, 6, 7]))
        self.assertEqual(desk.own(7, "x"), [])
        self.assertEqual(desk.cite(5, "e"), [])
        self.assertEqual((desk.numbers(), len(desk)), ([4, 6], 2))

    def test_lists_are_new(self):
        desk = self.desk("x: a |- a & a")
        for call in [desk.numbers, desk.journal, lambda: desk.offer(0)]:
            found = call()
            found.append(99)
        self.assertEqual((desk.numbers(), desk.journal()), ([1, 2], [("offer", 0)]))
        desk.numbers().clear()
        desk.journal().clear()
        self.assertEqual((desk.numbers(), len(desk), desk.journal()), ([1, 2], 2, [("offer", 0)]))

    def test_doing_tactics_in_a_loop_over_the_desk(self):
        desk = self.desk("x: a |- a & a & (a & a)")
        desk.offer(0)
        for number in desk:
            desk.offer(number)
        self.assertEqual(desk.numbers(), [3, 4, 5, 6])
        for number in desk:
            desk.own(number, "x")
        self.assertTrue(desk.is_finished)


class TacticTest(DeskCase):
    def test_own(self):
        self.opens(self.desk("x: a |- a"), ("own", 0, "x"))
        self.opens(self.desk("y [1/0]: b, x: a > b, z [3/3]: c |- a > b"), ("own", 0, "x"))
        self.opens(self.desk("x [1/0]: a, y [2/0]: a |- a"), ("own", 0, "x"))
        desk = self.desk("x: a, y [1/0]: b, z: b |- a")
        self.refuses(desk, ("own", 0, "none"), "UnknownName", name="none")
        self.refuses(desk, ("own", 0, "y"), "WrongGoal")
        self.refuses(desk, ("own", 0, "z"), "WrongGoal")
        self.refuses(desk, ("own", 0, "x"), "LeftOver", name="z")
        desk = self.desk("y: b, x [2/0]: a, z: b |- a")
        self.refuses(desk, ("own", 0, "x"), "LeftOver", name="y")
        desk = self.desk("x: a, y: a |- a")
        self.refuses(desk, ("own", 0, "x"), "LeftOver", name="y")
        self.refuses(desk, ("own", 0, "y"), "LeftOver", name="x")

    def test_take(self):
        self.opens(self.desk("x: a |- b > c"), ("take", 0, "y"), "x: a, y: b |- c")
        self.opens(self.desk("|- b [2/1] > c > d"), ("take", 0, "y"), "y [2/1]: b |- c > d")
        desk = self.desk("x: a |- b")
        self.refuses(desk, ("take", 0, "y"), "WrongGoal")
        self.refuses(desk, ("take", 0, "X"), "WrongGoal")
        self.refuses(self.desk("|- b & (a > b)"), ("take", 0, "y"), "WrongGoal")
        desk = self.desk("x: a |- b > c")
        for new in ["", "X", "9", "a b", "a" * 13]:
            self.refuses(desk, ("take", 0, new), "BadName", name=new)
        self.refuses(desk, ("take", 0, "x"), "NameTaken", name="x")
        self.opens(desk, ("take", 0, "a" * 12), "x: a, aaaaaaaaaaaa: b |- c")

    def test_offer(self):
        self.opens(self.desk("x: a, s [2/0]: b |- b & (c > d)"), ("offer", 0),
                   "x: a, s [2/0]: b |- b", "x: a, s [2/0]: b |- c > d")
        for text in ["|- a", "|- a > b & c", "x: a & b |- w"]:
            self.refuses(self.desk(text), ("offer", 0), "WrongGoal")

    def test_pick(self):
        text = "x: a, f: b & (c > d), s [2/0]: a & b, t [1/5]: a & b |- c"
        self.opens(self.desk(text), ("pick", 0, "f", "left", "y"),
                   "x: a, s [2/0]: a & b, t [1/5]: a & b, y: b |- c")
        self.opens(self.desk(text), ("pick", 0, "f", "right", "y"),
                   "x: a, s [2/0]: a & b, t [1/5]: a & b, y: c > d |- c")
        self.opens(self.desk(text), ("pick", 0, "s", "right", "y"),
                   "x: a, f: b & (c > d), s [1/0]: a & b, t [1/5]: a & b, y: b |- c")
        # Spent to 0 uses.
        self.opens(self.desk(text), ("pick", 0, "t", "left", "y"), "x: a, f: b & (c > d), s [2/0]: a & b, y: a |- c")
        desk = self.desk(text)
        self.refuses(desk, ("pick", 0, "none", "left", "X"), "UnknownName", name="none")
        self.refuses(desk, ("pick", 0, "x", "left", "X"), "WrongHold", name="x")
        self.refuses(desk, ("pick", 0, "f", "left", "X"), "BadName", name="X")
        for new in ["x", "f", "s"]:
            # A hold that is spent counts, too.
            self.refuses(desk, ("pick", 0, "f", "left", new), "NameTaken", name=new)

    def test_a_name_that_a_spent_hold_had(self):
        desk = self.desk("x: a & (b & c) |- c")
        self.opens(desk, ("pick", 0, "x", "right", "y"), "y: b & c |- c")
        desk.pick(1, "y", "right", "x")
        self.assertEqual(format_claim(desk.goal(2)), "x: c |- c")
        desk.own(2, "x")
        self.assertEqual(format_derivation(desk.built()), "pick x right pick #0 right own #1")

    def test_pay(self):
        text = "f: a > b, x: a, g [2/0]: c [2/1] > d, s [5/3]: c |- e"
        self.opens(self.desk(text), ("pay", 0, "f", "y", ()),
                   "|- a", "x: a, g [2/0]: c [2/1] > d, s [5/3]: c, y: b |- e")
        self.opens(self.desk(text), ("pay", 0, "f", "y", [("x", 1)]),
                   "x: a |- a", "g [2/0]: c [2/1] > d, s [5/3]: c, y: b |- e")
        # The shared holds come in the order of share.
        self.opens(self.desk(text), ("pay", 0, "f", "y", (("s", 2), ("x", 1), ("g", 1))),
                   "s [2/3]: c, x: a, g [1/0]: c [2/1] > d |- a", "g [1/0]: c [2/1] > d, s [3/3]: c, y: b |- e")
        self.opens(self.desk(text), ("pay", 0, "g", "y", [("s", 2)]),
                   "s [2/2]: c |- c", "f: a > b, x: a, g [1/0]: c [2/1] > d, s [1/3]: c, y: d |- e")
        self.opens(self.desk("g [1/0]: c [2/1] > d, s [4/1]: c |- d"), ("pay", 0, "g", "y", [("s", 2)]),
                   "s [2/0]: c |- c", "y: d |- d")
        desk = self.desk(text)
        self.refuses(desk, ("pay", 0, "none", "X", [("z", 0)]), "UnknownName", name="none")
        self.refuses(desk, ("pay", 0, "x", "X", [("z", 0)]), "WrongHold", name="x")
        self.refuses(desk, ("pay", 0, "f", "X", [("z", 0)]), "BadName", name="X")
        for new in ["f", "x", "s"]:
            self.refuses(desk, ("pay", 0, "f", new, [("z", 0)]), "NameTaken", name=new)
        self.refuses(desk, ("pay", 0, "f", "y", [("y", 1)]), "UnknownName", name="y")

    def test_make(self):
        self.opens(self.desk("x: a & b |- w"), ("make", 0, 0), "x: a & b |- a & b")
        self.opens(self.desk("x: a |- w"), ("make", 0, 1), "x: a |- a")
        for text, index in [("x: a |- w", 2), ("x: a |- w", -1), ("x: a |- a", 0), ("|- w & w", 0), ("|- w > w", 0)]:
            self.refuses(self.desk(text), ("make", 0, index), "WrongGoal")

    def test_unpack(self):
        self.opens(self.desk("x: w, s [2/0]: b |- c"), ("unpack", 0, "x", 0, "y"), "s [2/0]: b, y: a |- c")
        self.opens(self.desk("z: a, x [3/1]: w |- c"), ("unpack", 0, "x", 1, "y"), "z: a, x [2/1]: w, y: c > a |- c")
        self.opens(self.desk("x [1/1]: w |- c"), ("unpack", 0, "x", 1, "y"), "y: c > a |- c")
        desk = self.desk("x: w, z: b, m: w & w |- c")
        self.refuses(desk, ("unpack", 0, "none", 0, "X"), "UnknownName", name="none")
        for hold, index in [("z", 0), ("m", 0), ("x", 2), ("x", -1)]:
            self.refuses(desk, ("unpack", 0, hold, index, "X"), "WrongHold", name=hold)
        self.refuses(desk, ("unpack", 0, "x", 0, "X"), "BadName", name="X")
        for new in ["x", "z"]:
            self.refuses(desk, ("unpack", 0, "x", 0, new), "NameTaken", name=new)

    def test_cut(self):
        sentence = parse_sentence("a > b")
        text = "x: a, s [6/2]: c, f: a > b |- e"
        self.opens(self.desk(text), ("cut", 0, sentence, "y", "once", ()),
                   "|- a > b", "x: a, s [6/2]: c, f: a > b, y: a > b |- e")
        self.opens(self.desk(text), ("cut", 0, sentence, "y", "once", [("f", 1), ("s", 6)]),
                   "f: a > b, s [6/2]: c |- a > b", "x: a, y: a > b |- e")
        self.opens(self.desk(text), ("cut", 0, sentence, "y", (2, 1), (("s", 2),)),
                   "s [2/1]: c |- a > b", "x: a, s [2/2]: c, f: a > b, y [2/1]: a > b |- e")
        desk = self.desk(text)
        for kind in ["twice", (0, 0), (1, -1), [1, 0], (True, 0), None, (1,)]:
            self.refuses(desk, ("cut", 0, sentence, "X", kind, [("none", 0)]), "BadKind", kind=kind)
        self.refuses(desk, ("cut", 0, sentence, "X", "once", [("none", 0)]), "BadName", name="X")
        self.refuses(desk, ("cut", 0, sentence, "x", "once", [("none", 0)]), "NameTaken", name="x")
        self.refuses(desk, ("cut", 0, sentence, "y", "once", [("none", 0)]), "UnknownName", name="none")

    def test_cite(self):
        self.opens(self.desk("|- a > a"), ("cite", 0, "e"))
        self.opens(self.desk("s [2/0]: b |- a > a"), ("cite", 0, "k"))
        self.refuses(self.desk("x: a |- a"), ("cite", 0, "none"), "UnknownName", name="none")
        self.refuses(self.desk("x: a |- a"), ("cite", 0, "e"), "WrongGoal")
        self.refuses(self.desk("s [2/0]: b, y: b, x: a |- a > a"), ("cite", 0, "e"), "LeftOver", name="y")
        # A word is no entry.
        self.refuses(self.desk("|- w"), ("cite", 0, "w"), "UnknownName", name="w")

    def test_fill(self):
        self.opens(self.desk("x: a |- a"), ("fill", 0, parse_derivation("own x")))
        self.opens(self.desk("x: a |- a"), ("fill", 0, parse_derivation("cut once (a > a) cite k pay #0 once own x own #1")))
        desk = self.desk("x: a, y: b |- a")
        for text, path, reason in [("own z", (), "hold"), ("own y", (), "goal"), ("own x", (), "use"),
                                   ("take own x", (), "goal"), ("cut once (b) own x own x", (0,), "goal"),
                                   ("cite none", (), "entry")]:
            self.refuses(desk, ("fill", 0, parse_derivation(text)), "DerivationError", path=path, reason=reason)


class ShareTest(DeskCase):
    """Point 82, for the prices of pay and for cuts."""

    HOLDS = "x: a, y: b, s [6/2]: c, t [4/0]: d"

    def tactics(self, kind, share):
        """A pay and a cut of the kind, each with its desk."""
        text = "" if kind == "once" else f" [{kind[0]}/{kind[1]}]"
        return [(self.desk(f"f: p{text} > q, {self.HOLDS} |- r"), ("pay", 0, "f", "n", share), "n: q"),
                (self.desk(f"{self.HOLDS} |- r"), ("cut", 0, ("word", "p"), "n", kind, share), f"n{text}: p")]

    def shares(self, kind, share, given, left):
        for desk, tactic, new in self.tactics(kind, share):
            first = (given + " |- p") if given else "|- p"
            self.opens(desk, tactic, first, (left + ", " if left else "") + new + " |- r")

    def refuses_share(self, kind, share, error, name):
        for desk, tactic, _ in self.tactics(kind, share):
            self.refuses(desk, tactic, error, name=name)

    def test_what_is_held_once(self):
        self.shares("once", [("x", 1)], "x: a", "y: b, s [6/2]: c, t [4/0]: d")
        self.shares("once", [("y", 1), ("x", 1)], "y: b, x: a", "s [6/2]: c, t [4/0]: d")
        for uses in [0, 2, -1]:
            self.refuses_share("once", [("x", uses)], "NoRoom", "x")
        for kind in [(1, 0), (2, 5)]:
            for uses in [0, 1, 2]:
                self.refuses_share(kind, [("x", uses)], "NoRoom", "x")

    def test_stock_for_once(self):
        self.shares("once", [("s", 1)], "s [1/2]: c", "x: a, y: b, s [5/2]: c, t [4/0]: d")
        self.shares("once", [("t", 4), ("s", 5)], "t [4/0]: d, s [5/2]: c", "x: a, y: b, s [1/2]: c")
        self.shares("once", [("s", 6)], "s [6/2]: c", "x: a, y: b, t [4/0]: d")
        for uses in [0, 7, -1, 100]:
            self.refuses_share("once", [("s", uses)], "NoRoom", "s")

    def test_stock_for_stock(self):
        self.shares((2, 1), [("s", 1)], "s [1/1]: c", "x: a, y: b, s [4/2]: c, t [4/0]: d")
        self.shares((2, 1), [("s", 3)], "s [3/1]: c", "x: a, y: b, t [4/0]: d")
        self.shares((6, 2), [("s", 1)], "s [1/0]: c", "x: a, y: b, t [4/0]: d")
        self.shares((1, 0), [("t", 3), ("s", 6)], "t [3/0]: d, s [6/2]: c", "x: a, y: b, t [1/0]: d")
        self.shares((4, 0), [("t", 1), ("s", 1)], "t [1/0]: d, s [1/2]: c", "x: a, y: b, s [2/2]: c")
        for kind, share, name in [((2, 1), ("s", 4), "s"), ((2, 1), ("s", 0), "s"), ((2, 1), ("s", -1), "s"),
                                  ((7, 0), ("s", 1), "s"), ((5, 0), ("s", 2), "s"),
                                  # The days do not suffice.
                                  ((1, 3), ("s", 1), "s"), ((1, 1), ("t", 1), "t"), ((2, 1), ("t", 2), "t")]:
            self.refuses_share(kind, [share], "NoRoom", name)

    def test_the_first_pair_at_fault(self):
        self.refuses_share("once", [("s", 1), ("s", 1)], "NameTaken", "s")
        self.refuses_share("once", [("x", 1), ("x", 1)], "NameTaken", "x")
        self.refuses_share("once", [("s", 1), ("s", 100)], "NameTaken", "s")
        self.refuses_share("once", [("s", 1), ("none", 1), ("s", 1)], "UnknownName", "none")
        self.refuses_share("once", [("s", 7), ("none", 1)], "NoRoom", "s")
        self.refuses_share("once", [("none", 1), ("none", 1)], "UnknownName", "none")
        self.refuses_share("once", [("t", 1), ("s", 9), ("t", 1)], "NoRoom", "s")
        self.refuses_share("once", [("t", 1), ("s", 1), ("t", 1), ("none", 1)], "NameTaken", "t")
        self.refuses_share("once", [("n", 1)], "UnknownName", "n")
        self.refuses_share("once", [("X", 1)], "UnknownName", "X")

    def test_the_hold_that_pay_spends(self):
        desk = self.desk("f: a > b, x: a |- b")
        self.refuses(desk, ("pay", 0, "f", "y", [("f", 1)]), "UnknownName", name="f")
        desk = self.desk("f [1/0]: a > b, x: a |- b")
        self.refuses(desk, ("pay", 0, "f", "y", [("f", 1)]), "UnknownName", name="f")
        desk = self.desk("f [3/0]: a > b, x: a |- b")
        self.refuses(desk, ("pay", 0, "f", "y", [("f", 3)]), "NoRoom", name="f")
        self.opens(desk, ("pay", 0, "f", "y", [("f", 2)]), "f [2/0]: a > b |- a", "x: a, y: b |- b")
        self.opens(self.desk("f [3/0]: a > b, x: a |- b"), ("pay", 0, "f", "y", [("f", 1)]),
                   "f [1/0]: a > b |- a", "f [1/0]: a > b, x: a, y: b |- b")

    def test_a_list_that_the_caller_changes_later(self):
        share = [("x", 1)]
        desk = self.desk("f: a > b, x: a |- b")
        desk.pay(0, "f", "y", share=share)
        share.append(("y", 1))
        self.assertEqual(desk.journal(), [("pay", 0, "f", "y", (("x", 1),))])
        self.assertEqual(format_claim(desk.goal(1)), "x: a |- a")

    def test_nothing_is_shared_if_nothing_is_said(self):
        desk = self.desk("f: a > b, x: a |- b")
        desk.pay(0, "f", "y")
        self.assertEqual([format_claim(desk.goal(number)) for number in desk], ["|- a", "x: a, y: b |- b"])
        desk = self.desk("x: a |- b")
        desk.cut(0, A, "y")
        self.assertEqual([format_claim(desk.goal(number)) for number in desk], ["|- a", "x: a, y: a |- b"])
        self.assertEqual(desk.journal(), [("cut", 0, A, "y", "once", ())])


class SeekTest(DeskCase):
    def test_shown(self):
        desk = self.desk("f: a > b, x: a |- b")
        self.assertIs(desk.seek(0), True)
        expected = search(self.library, parse_claim("f: a > b, x: a |- b"), limit=500).derivation
        self.assertEqual(desk.journal(), [("fill", 0, expected)])
        self.assertTrue(desk.is_finished)
        self.assertEqual(desk.built(), expected)

    def test_not_shown(self):
        desk = self.desk("x: a |- b & a")
        before = view(desk)
        self.assertIs(desk.seek(0), False)
        self.assertIs(desk.seek(0, limit=None), False)
        self.assertEqual(view(desk), before)
        desk.offer(0)
        self.assertIs(desk.seek(1), False)
        self.assertIs(desk.seek(2), True)
        self.assertEqual(desk.numbers(), [1])

    def test_limits(self):
        claim = parse_claim("f: a > b, g: b > c, h: c > d, x: a |- d")
        looked = search(self.library, claim).looked
        for limit in [0, 1, looked - 1]:
            desk = Desk(self.library, claim)
            self.assertIs(desk.seek(0, limit=limit), False)
            self.assertEqual((desk.numbers(), desk.journal()), ([0], []))
        for limit in [looked, looked + 1, None]:
            desk = Desk(self.library, claim)
            self.assertIs(desk.seek(0, limit=limit), True)
            self.assertTrue(accepts(self.library, claim, desk.built()))

    def test_no_goal(self):
        desk = self.desk("x: a |- a")
        for number in [1, -1, 7]:
            self.assertEqual(error_of(desk.seek, number), ("NoGoal", {"number": number}))
        desk.seek(0)
        self.assertEqual(error_of(desk.seek, 0), ("NoGoal", {"number": 0}))

    def test_undo_and_what_cannot_be_done_again(self):
        desk = self.desk("x: a |- a & b")
        desk.offer(0)
        desk.undo()
        before = view(desk)
        # A search that shows nothing is no tactic.
        self.assertIs(desk.seek(0), False)
        self.assertEqual(view(desk), before)
        desk.redo()
        self.assertIs(desk.seek(1), True)
        desk.undo()
        self.assertEqual(desk.numbers(), [1, 2])
        self.assertIs(desk.seek(1), True)
        self.assertEqual(error_of(desk.redo), ("NothingToRedo", {}))


class UndoTest(DeskCase):
    TACTICS = [
        ("x: a |- a", ("own", 0, "x")), ("x: a |- a > b", ("take", 0, "y")), ("x: a |- a & b", ("offer", 0)),
        ("x: a & b |- a", ("pick", 0, "x", "left", "y")), ("f: a > b, x: a |- b", ("pay", 0, "f", "y", (("x", 1),))),
        ("x: a |- w", ("make", 0, 1)), ("x: w |- a", ("unpack", 0, "x", 0, "y")),
        ("x: a |- b", ("cut", 0, B, "y", (2, 1), ())), ("|- a > a", ("cite", 0, "e")),
        ("x: a |- a", ("fill", 0, ("own", "x"))),
    ]

    def test_nothing_to_undo(self):
        desk = self.desk("x: a |- a")
        self.assertEqual(error_of(desk.undo), ("NothingToUndo", {}))
        self.assertEqual(error_of(desk.redo), ("NothingToRedo", {}))
        desk.own(0, "x")
        self.assertEqual(error_of(desk.redo), ("NothingToRedo", {}))
        self.assertIsNone(desk.undo())
        self.assertEqual(error_of(desk.undo), ("NothingToUndo", {}))
        self.assertIsNone(desk.redo())
        self.assertEqual(error_of(desk.redo), ("NothingToRedo", {}))

    def test_each_tactic(self):
        for text, tactic in self.TACTICS:
            desk = self.desk(text)
            first = view(desk)
            numbers = self.do(desk, tactic)
            second = view(desk)
            self.assertEqual(desk.journal(), [tactic])
            desk.undo()
            self.assertEqual(view(desk), first)
            desk.redo()
            self.assertEqual(view(desk), second)
            desk.undo()
            # The numbers are given once more.
            self.assertEqual(self.do(desk, tactic), numbers)
            self.assertEqual(view(desk), second)
            self.assertEqual(error_of(desk.redo), ("NothingToRedo", {}))

    def test_after_the_library_has_changed(self):
        for text, tactic in self.TACTICS:
            self.library = library_of_words()
            desk = self.desk(text)
            self.do(desk, tactic)
            second = view(desk)
            desk.undo()
            self.library.forget("k")
            self.library.forget("e")
            self.library.undefine("w")
            desk.redo()
            self.assertEqual(view(desk), second)

    def test_the_desk_sees_later_changes_of_the_library(self):
        desk = self.desk("x: z |- a & (b > b)")
        desk.offer(0)
        self.refuses(desk, ("unpack", 1, "x", 0, "y"), "WrongHold", name="x")
        self.library.define("z", opens=[A])
        desk.unpack(1, "x", 0, "y")
        desk.own(3, "y")
        desk.undo()
        desk.undo()
        self.library.undefine("z")
        self.refuses(desk, ("unpack", 1, "x", 0, "y"), "WrongHold", name="x")
        desk.redo()
        desk.redo()
        self.assertEqual(desk.numbers(), [2])

    def test_several(self):
        desk = self.desk("x: a |- a & a & (a & a)")
        views = [view(desk)]
        for tactic in [("offer", 0), ("offer", 2), ("own", 4, "x"), ("offer", 1), ("own", 5, "x"), ("own", 3, "x"),
                       ("own", 6, "x")]:
            self.do(desk, tactic)
            views.append(view(desk))
        for before in views[-2::-1]:
            desk.undo()
            self.assertEqual(view(desk), before)
        for after in views[1:]:
            desk.redo()
            self.assertEqual(view(desk), after)
        for _ in range(5):
            desk.undo()
        self.assertEqual(view(desk), views[2])
        # Another way from here on: the numbers go on as they would have then.
        self.assertEqual(desk.offer(1), [5, 6])
        self.assertEqual(error_of(desk.redo), ("NothingToRedo", {}))
        self.assertEqual(desk.numbers(), [3, 4, 5, 6])

    def test_a_refused_tactic_does_not_forbid_redo(self):
        desk = self.desk("x: a |- a & a")
        desk.offer(0)
        second = view(desk)
        desk.undo()
        for tactic in [("own", 0, "x"), ("own", 1, "x"), ("take", 0, "y"), ("pick", 0, "x", "left", "y"), ("make", 0, 0),
                       ("cut", 0, A, "x", "once", ()), ("cut", 0, A, "y", "twice", ()), ("cite", 0, "e"),
                       ("fill", 0, ("own", "x")), ("pay", 0, "x", "y", ())]:
            self.assertIsNotNone(error_of(self.do, desk, tactic))
        self.assertEqual(error_of(desk.undo), ("NothingToUndo", {}))
        desk.redo()
        self.assertEqual(view(desk), second)

    def test_a_tactic_that_succeeds_forbids_it(self):
        desk = self.desk("x: a |- a & a")
        desk.offer(0)
        desk.own(1, "x")
        desk.undo()
        desk.undo()
        desk.cut(0, A, "y", share=[("x", 1)])
        self.assertEqual(error_of(desk.redo), ("NothingToRedo", {}))
        desk.undo()
        desk.redo()
        self.assertEqual(desk.journal(), [("cut", 0, A, "y", "once", (("x", 1),))])


class ReplayTest(DeskCase):
    def test_each_tactic(self):
        for text, tactic in UndoTest.TACTICS:
            desk = self.desk(text)
            self.do(desk, tactic)
            again = replay(self.library, parse_claim(text), desk.journal())
            self.assertIs(type(again), Desk)
            self.assertEqual(view(again), view(desk))
            self.assertEqual(error_of(again.redo), ("NothingToRedo", {}))
            again.undo()
            self.assertEqual(again.numbers(), [0])
            self.assertEqual(error_of(again.undo), ("NothingToUndo", {}))

    def test_behind_undo(self):
        desk = self.desk("x: a |- a & a")
        desk.offer(0)
        desk.own(2, "x")
        desk.own(1, "x")
        desk.undo()
        again = replay(self.library, parse_claim("x: a |- a & a"), desk.journal())
        self.assertEqual(view(again), view(desk))
        self.assertEqual(again.journal(), [("offer", 0), ("own", 2, "x")])
        self.assertEqual(error_of(again.redo), ("NothingToRedo", {}))
        self.assertEqual(replay(self.library, parse_claim("x: a |- a"), []).numbers(), [0])

    def test_errors_pass_through(self):
        claim = parse_claim("x: a |- a & a")
        for journal, error in [
            ([("own", 0, "x")], ("WrongGoal", {})), ([("offer", 1)], ("NoGoal", {"number": 1})),
            ([("offer", 0), ("own", 1, "y")], ("UnknownName", {"name": "y"})),
            ([("offer", 0), ("cut", 1, A, "x", "once", ())], ("NameTaken", {"name": "x"})),
            ([("offer", 0), ("fill", 1, ("own", "y"))], ("DerivationError", {"path": (), "reason": "hold"})),
            ([("offer", 0), ("cite", 1, "none")], ("UnknownName", {"name": "none"})),
            ([("offer", 0), ("cut", 1, A, "y", "once", (("x", 2),))], ("NoRoom", {"name": "x"})),
        ]:
            before = copy.deepcopy(journal)
            self.assertEqual(error_of(replay, self.library, claim, journal), error)
            self.assertEqual(journal, before)

    def test_in_another_library(self):
        desk = self.desk("|- a > a")
        desk.cite(0, "e")
        self.assertEqual(error_of(replay, Library(), parse_claim("|- a > a"), desk.journal()),
                         ("UnknownName", {"name": "e"}))

    def test_the_journal_may_change_later(self):
        journal = [("offer", 0)]
        desk = replay(self.library, parse_claim("x: a |- a & a"), journal)
        journal.append(("own", 1, "x"))
        self.assertEqual(desk.journal(), [("offer", 0)])


class BuiltTest(DeskCase):
    def built(self, text, *tactics):
        desk = self.desk(text)
        for at, tactic in enumerate(tactics):
            self.assertIs(desk.is_finished, False)
            self.assertEqual(error_of(desk.built), ("GoalsLeft", {"count": len(desk.numbers())}))
            self.do(desk, tactic)
        self.assertIs(desk.is_finished, True)
        found = desk.built()
        check(self.library, parse_claim(text), found)
        self.assertTrue(holds_no_list(found))
        return format_derivation(found)

    def test_each_tactic(self):
        self.assertEqual(self.built("x: a |- a", ("own", 0, "x")), "own x")
        self.assertEqual(self.built("|- a > a", ("take", 0, "y"), ("own", 1, "y")), "take own #0")
        self.assertEqual(self.built("x: a, s [1/0]: a |- a & a", ("offer", 0), ("own", 2, "x"), ("own", 1, "x")),
                         "offer own x own x")
        self.assertEqual(self.built("x: a & b |- b", ("pick", 0, "x", "right", "y"), ("own", 1, "y")),
                         "pick x right own #0")
        self.assertEqual(self.built("f: a > b, x: a |- b", ("pay", 0, "f", "y", [("x", 1)]), ("own", 2, "y"),
                                    ("own", 1, "x")), "pay f once own x own #0")
        self.assertEqual(self.built("f: a [2/1] > b, s [2/1]: a |- b", ("pay", 0, "f", "y", [("s", 1)]),
                                    ("own", 1, "s"), ("own", 2, "y")), "pay f [2/1] own s own #0")
        self.assertEqual(self.built("x: a |- w", ("make", 0, 1), ("own", 1, "x")), "make w 1 own x")
        self.assertEqual(self.built("x: w |- a", ("unpack", 0, "x", 0, "y"), ("own", 1, "y")), "open x w 0 own #0")
        self.assertEqual(self.built("x: a |- a", ("cut", 0, A, "y", "once", [("x", 1)]), ("own", 1, "x"),
                                    ("own", 2, "y")), "cut once (a) own x own #0")
        self.assertEqual(self.built("s [4/2]: a |- a & a", ("cut", 0, A, "y", (2, 1), [("s", 2)]), ("own", 1, "s"),
                                    ("offer", 2), ("own", 3, "y"), ("own", 4, "y")),
                         "cut [2/1] (a) own s offer own #0 own #0")
        self.assertEqual(self.built("s [1/0]: b |- a > a", ("cite", 0, "k")), "cite k")
        self.assertEqual(self.built("x: a |- a", ("fill", 0, parse_derivation("cut once (a) own x own #0"))),
                         "cut once (a) own x own #0")

    def test_levels(self):
        self.assertEqual(
            self.built("x: a & w |- c > (c > b) > (b > a > b) > b",
                       ("take", 0, "y"), ("take", 1, "f"), ("take", 2, "h"), ("pick", 3, "x", "left", "z"),
                       ("pay", 4, "f", "g", [("y", 1)]), ("own", 5, "y"), ("pay", 6, "h", "i", [("g", 1)]),
                       ("own", 7, "g"), ("pay", 8, "i", "j", [("z", 1)]), ("own", 9, "z"), ("own", 10, "j")),
            "take take take pick x left pay #1 once own #0 pay #2 once own #4 pay #5 once own #3 own #6")

    def test_fills_at_higher_levels(self):
        fill = parse_derivation("take pay y once own #0 pay #1 once own x own #2")
        self.assertEqual(
            self.built("|- (b > a > c) > a > b > c",
                       ("take", 0, "y"), ("take", 1, "x"), ("fill", 2, fill)),
            "take take take pay #0 once own #2 pay #3 once own #1 own #4")

    def test_a_fill_with_names_that_were_given_anew(self):
        text = "x: a & (b & c), y: (c > d) & e |- d"
        tactics = [("pick", 0, "x", "right", "z"), ("pick", 1, "y", "left", "x"), ("pick", 2, "z", "right", "y"),
                   ("fill", 3, parse_derivation("pay x once own y own #0"))]
        self.assertEqual(self.built(text, *tactics),
                         "pick x right pick y left pick #0 right pay #1 once own #2 own #3")

    def test_a_name_that_another_branch_gives_anew(self):
        # Within what is paid, z is spent and then stands for another hold; in the body it is the claim's.
        self.assertEqual(
            self.built("f: a > b > c, z [2/0]: (a & d) & b |- c",
                       ("pay", 0, "f", "g", [("z", 1)]), ("pick", 1, "z", "left", "y"), ("pick", 3, "y", "left", "z"),
                       ("own", 4, "z"), ("pay", 2, "g", "h", [("z", 1)]), ("pick", 5, "z", "right", "g"), ("own", 7, "g"),
                       ("own", 6, "h")),
            "pay f once pick z left pick #0 left own #1 pay #0 once pick z right own #1 own #1")
        # The same with fills, and with a name that stands for two holds in two branches.
        fill = parse_derivation("pick z right own #0")
        self.assertEqual(
            self.built("f: a > b > c, z [2/0]: (a & d) & b |- c",
                       ("pay", 0, "f", "g", [("z", 1)]), ("pick", 1, "z", "left", "y"), ("pick", 3, "y", "left", "z"),
                       ("fill", 4, parse_derivation("own z")), ("pay", 2, "g", "y", [("z", 1)]), ("fill", 5, fill),
                       ("fill", 6, parse_derivation("own y"))),
            "pay f once pick z left pick #0 left own #1 pay #0 once pick z right own #1 own #1")

    def test_a_fill_beside_others(self):
        text = "f: a > a > b, x: a, y: a & c |- b & b"
        fill = parse_derivation("pick y left own #0")
        self.assertEqual(
            self.built(text, ("offer", 0), ("pay", 1, "f", "g", [("y", 1)]), ("pay", 2, "f", "g", [("x", 1)]),
                       ("fill", 3, fill), ("pay", 4, "g", "h", [("x", 1)]), ("own", 5, "x"), ("own", 7, "x"),
                       ("own", 8, "h"), ("pay", 6, "g", "f", [("y", 1)]), ("fill", 9, fill), ("own", 10, "f")),
            "offer pay f once pick y left own #0 pay #0 once own x own #1 "
            "pay f once own x pay #0 once pick y left own #1 own #1")

    def test_goals_left(self):
        desk = self.desk("x: a |- a & a & (a & a)")
        for tactic, count in [(("offer", 0), 2), (("offer", 1), 3), (("offer", 2), 4), (("own", 3, "x"), 3)]:
            self.do(desk, tactic)
            self.assertEqual(error_of(desk.built), ("GoalsLeft", {"count": count}))

    def test_many_tactics(self):
        claim = parse_claim("s [400/0]: a |- " + "b [1/0] > " * 50 + "a")
        desk = Desk(self.library, claim)
        number = 0
        for at in range(50):
            (number,) = desk.take(number, "t" + str(at))
        for at in range(74):
            first, number = desk.cut(number, A, "c" + str(at), kind=(1, 0), share=[("s", 1)])
            desk.own(first, "s")
        desk.own(number, "c9")
        self.assertEqual(len(desk.journal()), 199)
        self.assertTrue(accepts(self.library, claim, desk.built()))
        for _ in range(199):
            desk.undo()
        for _ in range(199):
            desk.redo()
        self.assertTrue(desk.is_finished)

    def test_drawn(self):
        # Any accepted derivation can be built, row by row or with some parts as fills.
        source = random.Random(86)
        done = {}
        for _ in range(200):
            library = draw_full_library(source)
            claim, derivation = draw_derivation(source, library, source.choice([2, 3, 4]))
            desk = Desk(library, claim)
            rebuilt = Rebuilding(source, library, desk).rebuild(claim, derivation)
            if not rebuilt:
                continue
            self.assertEqual(desk.built(), derivation)
            again = replay(library, claim, desk.journal())
            self.assertEqual(view(again), view(desk))
            for told in desk.journal():
                done[told[0]] = done.get(told[0], 0) + 1
            self.walk_back(desk)
        self.assertEqual(len(done), 10, done)
        self.assertGreater(min(done.values()), 5, done)

    def test_tactics_at_random(self):
        # Whatever tactics succeed: what they have built shows the claim.
        source = random.Random(87)
        finished, refused = 0, {}
        for _ in range(200):
            library = draw_full_library(source)
            claim = draw_claim(source, 4, 2)
            if source.random() < 0.7:
                claim, _ = draw_derivation(source, library, source.choice([1, 2, 3]))
            desk = Desk(library, claim)
            for _ in range(60):
                if desk.is_finished:
                    break
                try:
                    self.play(source, desk)
                except ValueError as error:
                    refused[type(error).__name__] = True
            if desk.is_finished:
                check(library, claim, desk.built())
                self.assertEqual(view(replay(library, claim, desk.journal())), view(desk))
                finished += 1
        self.assertGreater(finished, 100)
        self.assertGreater(len(refused), 5)

    def play(self, source, desk):
        """Some tactic with arguments of which many are wrong."""
        number = source.choice(desk.numbers())
        names = [hold[0] for hold in desk.goal(number)[0]] + ["none", "n1"]
        hold, new = source.choice(names), "n" + str(source.randrange(4))
        share = [(source.choice(names), source.choice([1, 1, 1, 2, 3])) for _ in range(source.choice([0, 1, 1, 2]))]
        name = source.choice(["own", "take", "offer", "pick", "pay", "make", "unpack", "cut", "cite", "seek", "seek"])
        if name == "seek":
            desk.seek(number, limit=50)
        elif name == "cut" and source.random() < 0.3:
            desk.cut(number, draw_sentence(source, 1, "abw"), new, kind=draw_kind(source), share=share)
        elif name != "cut":
            told = {"own": (hold,), "take": (new,), "offer": (), "pick": (hold, source.choice(["left", "right"]), new),
                    "pay": (hold, new, share), "make": (source.randrange(3),), "cite": ("e",),
                    "unpack": (hold, source.randrange(3), new)}[name]
            self.do(desk, (name, number) + told)

    def walk_back(self, desk):
        last, many = view(desk), len(desk.journal())
        for at in reversed(range(many)):
            desk.undo()
            self.assertEqual(len(desk.journal()), at)
        self.assertEqual(error_of(desk.undo), ("NothingToUndo", {}))
        for _ in range(many):
            desk.redo()
        self.assertEqual(view(desk), last)


class Rebuilding:
    """Builds a derivation at a desk; the name of each new hold is n with the level of its row."""

    def __init__(self, source, library, desk):
        self.source = source
        self.library = library
        self.desk = desk

    def rebuild(self, claim, derivation):
        waiting = [(0, derivation, 0)]
        while waiting:
            at = self.source.randrange(len(waiting))
            number, row, level = waiting.pop(at)
            numbers = self.tactic(number, row, level)
            if numbers is None:
                return False
            above = premises(row) if numbers else []
            for index, (other, part) in enumerate(zip(numbers, above)):
                brings = row[0] not in ("offer", "make") and index == len(above) - 1
                waiting.append((other, part, level + brings))
        return True

    def name(self, ref):
        return ref if isinstance(ref, str) else "n" + str(ref)

    def tactic(self, number, row, level):
        """Do the tactic of a row; None if the row is not for a desk."""
        desk, new = self.desk, "n" + str(level)
        if self.source.random() < 0.15:
            return desk.fill(number, self.named(row, level))
        if row[0] == "own":
            return desk.own(number, self.name(row[1]))
        if row[0] == "take":
            return desk.take(number, new)
        if row[0] == "offer":
            return desk.offer(number)
        if row[0] == "pick":
            return desk.pick(number, self.name(row[1]), row[2], new)
        if row[0] == "make":
            return desk.make(number, row[2])
        if row[0] == "open":
            return desk.unpack(number, self.name(row[1]), row[3], new)
        if row[0] == "cite":
            return desk.cite(number, row[1])
        kind = row[2] if row[0] == "pay" else row[1]
        share = self.share(number, row, level, kind)
        if row[0] == "pay":
            return desk.pay(number, self.name(row[1]), new, share=share)
        return desk.cut(number, row[2], new, kind=kind, share=share)

    def named(self, row, level):
        """The part at a level as a derivation at level 0, with names for the holds of rows below."""
        return moved(row, level, 0, {at: "n" + str(at) for at in range(level)})

    def share(self, number, row, level, kind):
        """What the first premise needs."""
        found = []
        for ref, count in counts(row[3], level).items():
            name = self.name(ref)
            held = [hold[1] for hold in self.desk.goal(number)[0] if hold[0] == name]
            found.append((name, 1 if held == ["once"] else count.most))
        return found


if __name__ == "__main__":
    unittest.main()
