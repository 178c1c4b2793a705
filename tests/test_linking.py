"""Point 73: vocabularies, plain claims, and links between two sides."""

import copy
import random
import unittest

from drawing import draw_bare, draw_claim, draw_derivation, draw_library
from helper import boxes_in, check_new, error_of, holds_no_list
from heldproofs.checking import check
from heldproofs.claimtext import parse_claim
from heldproofs.counts import counts
from heldproofs.families import copying_family
from heldproofs.inverting import expanded
from heldproofs.library import Library
from heldproofs.linking import is_plain, join_links, links, vocabulary
from heldproofs.mending import least_kinds
from heldproofs.names import is_name
from heldproofs.performing import read_back
from heldproofs.readings import read_bare
from heldproofs.rows import heads, is_bare
from heldproofs.rowtext import format_derivation, parse_derivation
from heldproofs.running import finish
from heldproofs.searching import search
from heldproofs.sentences import words_in
from heldproofs.sentencetext import parse_sentence
from heldproofs.tallies import tally
from plainclaims import plain_is_plain, plain_vocabulary

A, B = ("word", "a"), ("word", "b")


def library_of_words():
    library = Library()
    library.define("v", makes=[parse_sentence("a"), parse_sentence("b & c")], opens=[parse_sentence("d & e"), A])
    library.define("w", makes=[parse_sentence("v > f")], opens=[parse_sentence("v"), parse_sentence("g > h")])
    library.define("u", makes=[parse_sentence("a & b")])
    library.define("t", opens=[parse_sentence("a & b")])
    library.define("s", makes=[parse_sentence("t > a")], opens=[parse_sentence("t")])
    library.define("r", makes=[parse_sentence("u > a")], opens=[parse_sentence("u")])
    return library


class VocabularyTest(unittest.TestCase):
    def test_each_sentence(self):
        library = library_of_words()
        for text, expected in [
            ("a", "a"), ("z & a", "a z"), ("b > a", "a b"), ("b [2/0] > a > b", "a b"), ("v", "a b c d e v"),
            ("w", "a b c d e f g h v w"), ("u > z", "a b u z"), ("t", "a b t"), ("s & s", "a b s t"),
            ("(z > w) > y", "a b c d e f g h v w y z"),
        ]:
            self.assertEqual(vocabulary(library, parse_sentence(text)), expected.split())
            self.assertEqual(plain_vocabulary(library, parse_sentence(text)), expected.split())
        self.assertEqual(vocabulary(Library(), parse_sentence("w > v")), ["v", "w"])
        check_new(self, lambda sentence: vocabulary(library, sentence), parse_sentence("w"))


class PlainTest(unittest.TestCase):
    def test_menus_at_each_place(self):
        library = library_of_words()
        for text, expected in [
            ("x: a |- b", True), ("|- a & b", False), ("x: a & b |- a", True), ("x: a & b & c |- a", True),
            # The price of a trade is at the other place, its goods are at the same one.
            ("|- a & b > c", True), ("|- a > b & c", False), ("|- (a & b > c) > d", False), ("|- (a > b & c) > d", True),
            ("x: a & b > c |- d", False), ("x: a > b & c |- d", True), ("x: (a & b > c) > d |- e", True),
            ("x: (a > b & c) > d |- e", False), ("x: a & (b & c > d) |- e", False), ("x: a & (b > c & d) |- e", True),
            ("x: a & ((b & c > d) > e) |- e", True), ("x: a, y: a & b > c |- d", False),
            ("x [2/0]: a & b > c |- d", False), ("|- a & b [2/0] > c", True), ("|- (a & b > c) [2/0] > d", False),
            # The makes of a word at a goal place, and the opens of one at a hold place.
            ("|- v", False), ("x: v |- a", True), ("|- u", False), ("x: u |- a", True), ("|- t", True),
            ("x: t |- a", True), ("|- w", True), ("x: w |- a", True), ("x: a |- v > a", True), ("x: v > a |- a", False),
            ("|- (v > a) > b", False), ("x: (v > a) > b |- b", True), ("|- s", True), ("x: s |- a", True),
            # The make of r is u > a, whose price is at a hold place; its open is u.
            ("|- r", True), ("x: r |- a", True), ("x: r > a |- a", True), ("|- z", True), ("x: z |- z", True),
        ]:
            found = is_plain(library, parse_claim(text))
            self.assertIs(found, expected, text)
            self.assertEqual(plain_is_plain(library, parse_claim(text)), expected, text)

    def test_words_in_words(self):
        library = Library()
        library.define("one", makes=[parse_sentence("a & b")], opens=[parse_sentence("c")])
        library.define("two", makes=[parse_sentence("one")], opens=[parse_sentence("one > c")])
        library.define("three", makes=[parse_sentence("two > c")], opens=[parse_sentence("(two > c) > c")])
        for text, expected in [("|- two", False), ("x: two |- c", False), ("|- three", False), ("x: three |- c", False),
                               ("x: one |- c", True), ("x: two |- one", False), ("x: c |- one > c", True)]:
            self.assertEqual(is_plain(library, parse_claim(text)), expected, text)
            self.assertEqual(plain_is_plain(library, parse_claim(text)), expected, text)

    def test_words_that_occur_many_times(self):
        # Each word occurs 30 times in the next one; each is looked at once.
        library = Library()
        opened = made = A
        for at in range(8):
            menu, trade = opened, made
            for _ in range(29):
                menu, trade = ("menu", menu, opened), ("trade", "once", made, trade)
            library.define(f"o{at}", opens=[menu])
            library.define(f"m{at}", makes=[trade])
            opened, made = ("word", f"o{at}"), ("word", f"m{at}")
        self.assertTrue(is_plain(library, ((("x", "once", opened),), made)))
        self.assertFalse(is_plain(library, ((), ("trade", "once", ("trade", "once", ("menu", A, opened), A), made))))
        self.assertEqual(vocabulary(library, opened), ["a"] + [f"o{at}" for at in range(8)])
        self.assertEqual(vocabulary(library, ("menu", made, A)), ["a"] + [f"m{at}" for at in range(8)])

    def test_drawn(self):
        source = random.Random(73)
        seen = {True: 0, False: 0}
        for _ in range(500):
            library = draw_library(source, limit=0)
            claim = draw_claim(source, 3, 3)
            found = is_plain(library, claim)
            self.assertEqual(found, plain_is_plain(library, claim))
            for name, kind, sentence in claim[0]:
                self.assertEqual(vocabulary(library, sentence), plain_vocabulary(library, sentence))
            seen[found] += 1
        self.assertGreater(min(seen.values()), 50)


class LinksTest(unittest.TestCase):
    def check_links(self, library, claim, derivation, left):
        """All properties that the point lists."""
        before = copy.deepcopy((claim, derivation, left))
        found = links(library, claim, derivation, left)
        self.assertEqual((claim, derivation, left), before)
        self.assertIs(type(found), tuple)
        linked, rest = found
        self.assertIs(type(linked), list)
        names = [hold[0] for hold in claim[0]] + [link[0] for link in linked]
        self.assertEqual(len(names), len(set(names)))
        self.assertTrue(is_bare(rest) and holds_no_list(rest))
        used = counts(rest)
        left_words, right_words = self.words_of_sides(library, claim, left)
        for link in linked:
            self.assertIs(type(link), tuple)
            name, kind, sentence, part = link
            self.assertTrue(is_name(name) and is_bare(part) and holds_no_list(part))
            self.check_part(library, claim, left, sentence, part)
            for word in words_in(sentence):
                self.assertTrue(word in left_words and word in right_words, (word, sentence))
            self.assertEqual(len([head for head in heads(rest) if len(head) > 1 and head[1] == name]), 1)
            count = used[name].triple()
            self.assertEqual(kind, "once" if count == (1, 1, 0) else count[1:])
        holds = [hold for hold in claim[0] if hold[0] not in left] + [link[:3] for link in linked]
        check(library, (tuple(holds), claim[1]), rest)
        joined = join_links(linked, rest)
        check(library, claim, joined)
        self.assertEqual(read_back(library, joined), read_bare(derivation))
        ended = finish(library, joined)
        self.assertEqual(read_bare(ended), read_bare(derivation))
        return linked, rest

    def words_of_sides(self, library, claim, left):
        left_words, right_words = set(), set(vocabulary(library, claim[1]))
        for name, kind, sentence in claim[0]:
            (left_words if name in left else right_words).update(vocabulary(library, sentence))
        return left_words, right_words

    def check_part(self, library, claim, left, sentence, part):
        used = counts(part)
        self.assertTrue(all([name in left for name in used]))
        holds = tuple([hold for hold in claim[0] if hold[0] in used])
        check(library, least_kinds((holds, sentence), part), part)

    def texts(self, claim, derivation, left, library=None):
        claim, derivation = parse_claim(claim), parse_derivation(derivation)
        linked, rest = self.check_links(library or Library(), claim, derivation, left)
        return len(linked)

    def test_holds_on_either_side(self):
        self.assertEqual(self.texts("x: a |- a", "own x", ["x"]), 1)
        self.assertEqual(self.texts("x: a |- a", "own x", []), 0)
        for left in [[], ["f"], ["x"], ["f", "x"]]:
            self.texts("f: a > b, x: a |- b", "pay f once own x own #0", left)
        for left in [[], ["f"], ["g"], ["x"], ["f", "g"], ["f", "x"], ["x", "g"], ["x", "g", "f"]]:
            self.texts("f: a > b, g: b > c, x: a |- c", "pay g once pay f once own x own #0 own #0", left)
            self.texts("f: a > b, g: b > c, x: a |- c", "pay f once own x pay g once own #0 own #1", left)

    def test_takes(self):
        for left in [[], ["f"], ["g"], ["f", "g"]]:
            self.texts("f: (a > b) > c, g: a > b |- c", "pay f once take pay g once own #0 own #1 own #0", left)
            self.texts("f: (a > b) > c, g: (a > b) > c > d |- (a > b) [2/0] > d",
                       "take pay f once own #0 pay g once own #0 pay #2 once own #1 own #3", left)
        for left in [[], ["f"], ["x"], ["f", "x"]]:
            self.texts("f: a > b, x: a |- (b > c) > c", "take pay #0 once pay f once own x own #1 own #1", left)
            self.texts("f: (a > b) > c, x: d |- (a > b) > (c > d > e) > e",
                       "take take pay f once own #0 pay #1 once own #2 pay #3 once own x own #4", left)

    def test_takes_on_both_sides_of_one_another(self):
        # A hold that a take on the left brings is used within what is paid for a hold on the right, and so on.
        claim = "f: ((a > b) > c) > d, g: (a > b) > c |- d"
        derivation = "pay f once take pay g once take pay #0 once own #1 own #2 own #1 own #0"
        for left in [[], ["f"], ["g"], ["f", "g"]]:
            self.texts(claim, derivation, left)

    def test_menus_held(self):
        for left in [[], ["x"], ["f"], ["x", "f"]]:
            self.texts("x: a & (c > b), f: d > c, y: d |- b",
                       "pick x right pay #0 once pay f once own y own #1 own #1", left)
            self.texts("x: a & b, f: a > c & d |- d", "pick x left pay f once own #0 pick #1 right own #2", left)

    def test_stock(self):
        for left in [[], ["f"], ["s"], ["f", "s"], ["t"], ["s", "t"], ["f", "s", "t"]]:
            self.texts("f: a [2/1] > a > b, s [5/2]: a, t [3/0]: a |- b",
                       "pay f [2/1] own s pay #0 once own t own #1", left)
            self.texts("f [1/0]: a [2/1] > b, s [4/2]: c [2/1] > a, t [9/9]: c |- b",
                       "pay f [2/1] pay s [2/1] own t own #0 own #0", left)
        for left in [[], ["f"], ["g"], ["s"], ["f", "s"], ["g", "s"], ["g", "f"]]:
            self.texts("f: (a [3/0] > b) [2/1] > c, g [2/1]: a > a > b, s [9/9]: a |- c",
                       "pay f [2/1] take pay g once own #0 pay #1 once own #0 own #2 own #0", left)

    def test_holds_that_are_not_used(self):
        self.assertEqual(self.texts("x: a, s [2/0]: b |- a", "own x", ["s"]), 0)
        self.assertEqual(self.texts("x: a, s [2/0]: b |- a", "own x", ["s", "x"]), 1)
        self.assertEqual(self.texts("x: a, s [2/0]: b |- c [1/0] > a", "take own x", ["s"]), 0)

    def test_makes_and_opens(self):
        library = Library()
        library.define("w", makes=[parse_sentence("a > b")], opens=[parse_sentence("a > b"), parse_sentence("c & d")])
        for left in [[], ["f"], ["x"], ["x", "f"], ["f", "g"], ["g"]]:
            self.texts("f: w > c, x: b, g: a > b > b |- c",
                       "pay f once make w 0 take pay g once own #0 pay #1 once own x own #2 own #0", left, library)
            self.texts("x: w, f: d > c > a, g: c |- a",
                       "open x w 1 pick #0 right pay f once own #1 pay #2 once own g own #3", left, library)
        for left in [[], ["x"]]:
            self.texts("x: w |- w", "own x", left, library)
            self.texts("x: w |- w", "make w 0 take open x w 0 pay #1 once own #0 own #2", left, library)

    def test_own_at_goals_of_all_forms(self):
        for goal in ["a", "a > b", "a [2/1] > b > c", "(a > b) > c"]:
            for left in [[], ["x"]]:
                self.texts(f"x: {goal} |- {goal}", "own x", left)
                self.texts(f"x: ({goal}) > d, y: {goal} |- d", "pay x once own y own #0", left)
                self.texts(f"x: ({goal}) & d |- {goal}", "pick x left own #0", left)

    def test_names_that_the_claim_has(self):
        names = ["l", "l0", "l1", "l2", "l3", "link", "link0", "link1", "x", "x0", "x1", "h", "h0", "h1", "a", "b"]
        for first in names:
            for second in names:
                if first != second:
                    claim = parse_claim(f"{first}: a > b, {second}: a |- b")
                    derivation = parse_derivation(f"pay {first} once own {second} own #0")
                    for left in [[first], [second], [first, second]]:
                        self.check_links(Library(), claim, derivation, left)

    def test_a_name_twice_in_left(self):
        claim, derivation = parse_claim("f: a > b, x: a |- b"), parse_derivation("pay f once own x own #0")
        for left in [["f"], ["x"], ["f", "x"]]:
            once = links(Library(), claim, derivation, left)
            self.assertEqual(links(Library(), claim, derivation, left + left[::-1]), once)
            self.check_links(Library(), claim, derivation, left * 3)

    def test_errors_in_their_order(self):
        library = library_of_words()
        plain, menu = parse_claim("x: a |- a"), parse_claim("x: a |- a & a")
        bare, cut, cite = [parse_derivation(text) for text in
                           ["own x", "offer own x cut once (a) own x own #0", "take cite none"]]
        for derivation in [bare, cut, cite]:
            for left in [[], ["x"], ["none"]]:
                self.assertEqual(error_of(links, library, menu, derivation, left), ("NotPlain", {}))
                self.assertEqual(error_of(links, library, parse_claim("x: v > a |- a"), derivation, left), ("NotPlain", {}))
        for left in [[], ["x"], ["none", "x"]]:
            self.assertEqual(error_of(links, library, plain, cut, left), ("NotBare", {"path": (1,)}))
            self.assertEqual(error_of(links, library, plain, cite, left), ("NotBare", {"path": (0,)}))
        for left, name in [(["none"], "none"), (["x", "one", "two"], "one"), (["two", "x", "one"], "two"),
                           (["x", "x", ""], ""), (["X"], "X")]:
            self.assertEqual(error_of(links, library, plain, bare, left), ("UnknownName", {"name": name}))

    def test_whatever_the_derivation_shows(self):
        for text in ["own none", "own #7", "pick x left own #0", "cite e", "take cut once (a) cite e own #0"]:
            self.assertEqual(error_of(links, Library(), parse_claim("x: a |- a & b"), parse_derivation(text), ["y"]),
                             ("NotPlain", {}))
        for text, path in [("cite e", ()), ("pick none left cite e", (0,)), ("offer own #3 cite e", (1,))]:
            self.assertEqual(error_of(links, Library(), parse_claim("x: a |- b"), parse_derivation(text), ["y"]),
                             ("NotBare", {"path": path}))

    def test_results_are_new(self):
        claim, derivation = parse_claim("f: a > b, x: a |- b"), parse_derivation("pay f once own x own #0")
        for left in [["f"], ["x"], []]:
            check_new(self, lambda *told: links(Library(), *told), claim, derivation, left)
            self.assertEqual(len(boxes_in(links(Library(), claim, derivation, left))), 1)

    def test_drawn(self):
        source = random.Random(73)
        done, many, stock = 0, 0, 0
        while done < 150:
            library, claim, derivation = draw_bare(source, source.choice([3, 4, 5, 6]))
            if not is_plain(library, claim):
                self.assertEqual(error_of(links, library, claim, derivation, []), ("NotPlain", {}))
                continue
            done += 1
            left = [name for name, kind, sentence in claim[0] if source.random() < 0.5]
            linked, rest = self.check_links(library, claim, derivation, source.sample(left, len(left)))
            many += len(linked) > 1
            stock += any([kind != "once" for name, kind, sentence, part in linked])
        self.assertGreater(min(many, stock), 15)

    def test_ends_of_runs(self):
        source = random.Random(74)
        done = 0
        while done < 60:
            library = draw_library(source)
            claim, derivation = draw_derivation(source, library, 4)
            first = tally(library, derivation)
            if not is_plain(library, claim) or first.rows > 500 or first.load > 300:
                continue
            ended = finish(library, derivation)
            if not is_bare(ended):
                continue
            done += 1
            left = [name for name, kind, sentence in claim[0] if source.random() < 0.5]
            self.check_links(library, claim, ended, left)

    def test_all_sides_of_searched_claims(self):
        for text in ["f: (a > b) > c, g: d > b, h: a > d |- c", "f: a > b > c, x: a, y: d > b, z: d |- c",
                     "f: ((a > b) > b) > c, x: a |- c", "x: a |- (a > b) > (b > c) > c",
                     "s [4/0]: a > a, x: a, f: a > a > b |- a > b"]:
            claim = parse_claim(text)
            derivation = search(Library(), claim).derivation
            names = [hold[0] for hold in claim[0]]
            for chosen in range(2 ** len(names)):
                left = [name for at, name in enumerate(names) if chosen // 2 ** at % 2]
                self.check_links(Library(), claim, derivation, left)

    def test_large(self):
        claim, derivation = copying_family(1, 50)
        ended = finish(Library(), derivation)
        for left in [[], ["x"]]:
            self.check_links(Library(), claim, ended, left)
        # 36 trades, each paid with the next one, on alternating sides.
        many = 36
        holds = [(f"f{at}", "once", ("trade", "once", ("word", f"w{at + 1}"), ("word", f"w{at}"))) for at in range(many)]
        derivation = ("own", "last")
        for at in reversed(range(many)):
            derivation = ("pay", f"f{at}", "once", derivation, ("own", 0))
        claim = (tuple(holds) + (("last", "once", ("word", f"w{many}")),), ("word", "w0"))
        for left in [[f"f{at}" for at in range(0, many, 2)], [f"f{at}" for at in range(1, many, 2)],
                     [f"f{at}" for at in range(many)], ["last"]]:
            linked, rest = self.check_links(Library(), claim, derivation, left)
            self.assertGreater(len(linked), 0)

    def test_nested_takes(self):
        # Functions of functions on both sides, each taken and paid.
        sentence = A
        for at in range(7):
            sentence = ("trade", "once", sentence, B if at % 2 else A)
            claim = ((("x", "once", sentence),), sentence)
            derivation = expanded(Library(), claim, ("own", "x"))
            for left in [[], ["x"]]:
                self.check_links(Library(), claim, derivation, left)


class JoinTest(unittest.TestCase):
    def test_example_of_the_interface(self):
        rest = parse_derivation("pay f once own l own #0")
        found = join_links([("l", "once", ("word", "a"), ("own", "s"))], rest)
        self.assertEqual(format_derivation(found), "cut once (a) own s pay f once own #0 own #1")

    def test_no_links(self):
        rest = parse_derivation("take own x")
        self.assertEqual(join_links([], rest), rest)

    def test_several_links_at_their_levels(self):
        linked = [("k", "once", parse_sentence("a > a"), parse_derivation("take own #0")),
                  ("l", (2, 1), A, parse_derivation("pay s [2/0] take pick #0 left own y pick #0 right own #1")),
                  ("m", "once", B, parse_derivation("take take own #1"))]
        rest = parse_derivation("take pay k once own l pay l [1/0] pay m once own #0 own x pick #2 left own m")
        self.assertEqual(
            format_derivation(join_links(linked, rest)),
            "cut once (a > a) take own #0 "
            "cut [2/1] (a) pay s [2/0] take pick #1 left own y pick #1 right own #2 "
            "cut once (b) take take own #3 "
            "take pay #0 once own #1 pay #1 [1/0] pay #2 once own #3 own x pick #5 left own #2")

    def test_arguments_stay_as_they_are(self):
        linked = [("l", "once", A, ("own", "s"))]
        rest = ("pay", "f", "once", ("own", "l"), ("own", 0))
        join_links(linked, rest)
        self.assertEqual(linked, [("l", "once", A, ("own", "s"))])
        self.assertTrue(holds_no_list(join_links(linked, rest)))


if __name__ == "__main__":
    unittest.main()
