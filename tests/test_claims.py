"""Points 16 to 18: claims."""

import copy
import itertools
import unittest

from helper import error_of, holds_no_list
from heldproofs.claims import bare_claim, hold_of, make_claim, with_hold, without_hold
from heldproofs.sentences import menu, trade, word

A, B, C = ("word", "a"), ("word", "b"), ("word", "c")
X = ("x", "once", A)
Y = ("y", (2, 1), B)


class MakeTest(unittest.TestCase):
    def test_from_lists_and_from_tuples(self):
        self.assertEqual(make_claim([X, Y], C), ((X, Y), C))
        self.assertEqual(make_claim((X, Y), C), ((X, Y), C))
        self.assertEqual(make_claim([], C), ((), C))
        self.assertEqual(make_claim((), C), ((), C))
        self.assertTrue(holds_no_list(make_claim([X, Y], C)))

    def test_the_list_is_not_changed_and_not_kept(self):
        holds = [X, Y]
        made = make_claim(holds, C)
        self.assertEqual(holds, [X, Y])
        holds.append(X)
        self.assertEqual(made, ((X, Y), C))

    def test_each_error(self):
        self.assertEqual(error_of(make_claim, [("X", "once", A)], C), ("BadName", {"name": "X"}))
        self.assertEqual(error_of(make_claim, [("", "once", A)], C), ("BadName", {"name": ""}))
        self.assertEqual(error_of(make_claim, [("x", "twice", A)], C), ("BadKind", {"kind": "twice"}))
        self.assertEqual(error_of(make_claim, [("x", (0, 0), A)], C), ("BadKind", {"kind": (0, 0)}))
        self.assertEqual(error_of(make_claim, [("x", [1, 0], A)], C), ("BadKind", {"kind": [1, 0]}))
        self.assertEqual(error_of(make_claim, [X, X], C), ("NameTaken", {"name": "x"}))
        self.assertEqual(error_of(make_claim, [X, Y, ("x", (1, 0), B)], C), ("NameTaken", {"name": "x"}))

    def test_names_at_their_limits(self):
        for name in ["a", "abcdefghijkl", "own", "z9"]:
            self.assertEqual(make_claim([(name, "once", A)], C)[0][0][0], name)
        for name in ["abcdefghijklm", "1a", "a_b", "a ", "#0"]:
            self.assertEqual(error_of(make_claim, [(name, "once", A)], C), ("BadName", {"name": name}))

    def test_the_first_hold_at_fault_counts(self):
        bad_name, bad_kind, taken = ("X", "once", A), ("y", "twice", A), X
        expected = {bad_name: ("BadName", {"name": "X"}), bad_kind: ("BadKind", {"kind": "twice"}),
                    taken: ("NameTaken", {"name": "x"})}
        for order in itertools.permutations([bad_name, bad_kind, taken]):
            self.assertEqual(error_of(make_claim, [X] + list(order), C), expected[order[0]])

    def test_the_order_of_the_errors_for_one_hold(self):
        self.assertEqual(error_of(make_claim, [X, ("X", "twice", A)], C), ("BadName", {"name": "X"}))
        self.assertEqual(error_of(make_claim, [X, ("x", "twice", A)], C), ("BadKind", {"kind": "twice"}))


class HoldsTest(unittest.TestCase):
    claim = make_claim([X, Y], C)

    def test_hold_of(self):
        self.assertEqual(hold_of(self.claim, "x"), ("once", A))
        self.assertEqual(hold_of(self.claim, "y"), ((2, 1), B))
        for name in ["z", "a", "", "X"]:
            self.assertEqual(error_of(hold_of, self.claim, name), ("UnknownName", {"name": name}))
        self.assertEqual(error_of(hold_of, ((), C), "x"), ("UnknownName", {"name": "x"}))

    def test_with_hold(self):
        before = copy.deepcopy(self.claim)
        self.assertEqual(with_hold(self.claim, "z", (3, 0), A), ((X, Y, ("z", (3, 0), A)), C))
        self.assertEqual(with_hold(((), C), "z", "once", A), ((("z", "once", A),), C))
        self.assertEqual(self.claim, before)

    def test_with_hold_raises_like_make_claim(self):
        self.assertEqual(error_of(with_hold, self.claim, "Z", "once", A), ("BadName", {"name": "Z"}))
        self.assertEqual(error_of(with_hold, self.claim, "z", (0, 1), A), ("BadKind", {"kind": (0, 1)}))
        self.assertEqual(error_of(with_hold, self.claim, "x", "once", A), ("NameTaken", {"name": "x"}))
        self.assertEqual(error_of(with_hold, self.claim, "y", (1, 0), A), ("NameTaken", {"name": "y"}))
        self.assertEqual(error_of(with_hold, self.claim, "X", "twice", A), ("BadName", {"name": "X"}))
        self.assertEqual(error_of(with_hold, self.claim, "x", "twice", A), ("BadKind", {"kind": "twice"}))

    def test_without_hold(self):
        before = copy.deepcopy(self.claim)
        self.assertEqual(without_hold(self.claim, "x"), ((Y,), C))
        self.assertEqual(without_hold(self.claim, "y"), ((X,), C))
        self.assertEqual(without_hold(without_hold(self.claim, "x"), "y"), ((), C))
        self.assertEqual(error_of(without_hold, self.claim, "z"), ("UnknownName", {"name": "z"}))
        self.assertEqual(error_of(without_hold, ((), C), "x"), ("UnknownName", {"name": "x"}))
        self.assertEqual(self.claim, before)

    def test_fifty_holds(self):
        claim = ((), C)
        for index in range(50):
            claim = with_hold(claim, "h" + str(index), (400, 100), A)
        self.assertEqual(len(claim[0]), 50)
        self.assertEqual(hold_of(claim, "h49"), ((400, 100), A))
        self.assertEqual(len(without_hold(claim, "h0")[0]), 49)


class BareTest(unittest.TestCase):
    def bare(self, pairs):
        holds = [("h" + str(index), kind, sentence) for index, (kind, sentence) in enumerate(pairs)]
        made = bare_claim(make_claim(holds, C))
        self.assertTrue(holds_no_list(made))
        self.assertEqual(made[1], C)
        return list(made[0])

    def test_without_holds(self):
        self.assertEqual(bare_claim(((), C)), ((), C))

    def test_order_in_every_order_of_the_holds(self):
        pairs = [("once", A), ((1, 5), A), ((2, 0), A), ((2, 9), A), ((2, 10), A), ((10, 0), A), ((9, 0), B)]
        ordered = [("once", A), ((1, 5), A), ((2, 0), A), ((2, 9), A), ((2, 10), A), ((10, 0), A), ((9, 0), B)]
        for order in itertools.permutations(pairs):
            self.assertEqual(self.bare(order), ordered)

    def test_order_of_the_texts(self):
        sentences = [menu(A, B), trade(A, B), trade(A, B, kind=(2, 0)), trade(menu(A, B), C), A, word("a0"),
                     word("aa"), menu(trade(A, B), C), trade(trade(A, B), C)]
        texts = ["(a > b) & c", "(a > b) > c", "a", "a & b", "a & b > c", "a > b", "a [2/0] > b", "a0", "aa"]
        by_text = dict(zip(["a & b", "a > b", "a [2/0] > b", "a & b > c", "a", "a0", "aa", "(a > b) & c",
                            "(a > b) > c"], sentences))
        for start in range(len(sentences)):
            order = sentences[start:] + sentences[:start]
            self.assertEqual(self.bare([("once", sentence) for sentence in order]),
                             [("once", by_text[text]) for text in texts])

    def test_the_text_comes_before_the_kind(self):
        self.assertEqual(self.bare([("once", B), ((400, 9), A)]), [((400, 9), A), ("once", B)])

    def test_equal_pairs_stay_separate(self):
        self.assertEqual(self.bare([("once", A), ((2, 0), A), ("once", A), ((2, 0), A)]),
                         [("once", A), ("once", A), ((2, 0), A), ((2, 0), A)])


if __name__ == "__main__":
    unittest.main()
