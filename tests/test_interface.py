"""The interface: each name is defined in its file, with its arguments and its methods."""

import ast
import importlib
import inspect
import unittest

FUNCTIONS = {
    "kinds": ["is_kind(value)", "nested(outer, inner)", "pooled(first, second)", "covers(room, kind)"],
    "sentences": ["word(name)", "menu(left, right)", "trade(price, goods, *, kind='once')",
                  "size(sentence)", "words_in(sentence)", "legs(sentence)"],
    "sentencetext": ["format_sentence(sentence)", "parse_sentence(text)"],
    "claims": ["make_claim(holds, goal)", "hold_of(claim, name)", "without_hold(claim, name)",
               "with_hold(claim, name, kind, sentence)", "bare_claim(claim)"],
    "claimtext": ["format_claim(claim)", "parse_claim(text)"],
    "rows": ["premises(derivation)", "part(derivation, path)", "with_part(derivation, path, other)",
             "level_at(derivation, path)", "row_count(derivation)", "walk(derivation)", "cut_paths(derivation)",
             "is_bare(derivation)"],
    "rowtext": ["format_derivation(derivation)", "parse_derivation(text)"],
    "moving": ["moved(derivation, old, new, renamed)", "free_refs(derivation, level)"],
    "counts": ["counts(derivation, level=0)"],
    "checking": ["check(library, claim, derivation)", "accepts(library, claim, derivation)",
                 "claim_at(library, claim, derivation, path)"],
    "mending": ["with_room(claim, name, kind)", "pooled_holds(claim, derivation, first, second)",
                "least_kinds(claim, derivation)", "abstracted(claim, derivation, name)"],
    "ends": ["ways(library, sentence)", "ends(library, pairs, goal)"],
    "searching": ["search(library, claim, *, limit=None, order='forward')"],
    "library": ["unfolded(library, derivation)"],
    "inverting": ["invert_take(claim, derivation, name)", "invert_offer(claim, derivation, side)",
                  "expanded(library, claim, derivation)"],
    "stepping": ["steps(library, derivation)", "step_name(library, derivation, step)",
                 "do_step(library, derivation, step)"],
    "running": ["run(library, derivation, choices, *, limit=1000)", "finish(library, derivation)"],
    "ranks": ["rank(library, sentence)", "loss(sentence)"],
    "tallies": ["tally(library, derivation)", "greatest_play(library, derivation)"],
    "playing": ["plays(library, derivation)"],
    "families": ["passing_family(left, right)", "doubling_family(count)", "copying_family(count, uses)"],
    "readings": ["read_bare(derivation)", "settled_from(reading)", "alike(first, second)"],
    "exchanging": ["exchange_paths(derivation)", "exchange(derivation, path)", "settling(derivation)",
                   "settle(derivation)", "chain(first, second)"],
    "performing": ["perform(library, derivation, things)", "read_back(library, derivation)"],
    "refuting": ["refutes(library, table, claim)", "span(sentence, name)", "doubts(claim)"],
    "worldbuilding": ["build_world(claim, *, limit=40)"],
    "linking": ["vocabulary(library, sentence)", "is_plain(library, claim)", "links(library, claim, derivation, left)",
                "join_links(linked, rest)"],
    "desk": ["replay(library, claim, journal)"],
}

CLASSES = {
    "counts": {"Count": {"__init__": "(self, least, most, days)", "__add__": "(self, other)",
                         "__or__": "(self, other)", "boxed": "(self, kind)", "fits": "(self, kind)",
                         "triple": "(self)"}},
    "searching": {"Answer": {}, "Searcher": {
        "__init__": "(self, library, *, limit=None, order='forward')", "seek": "(self, claim)", "clear": "(self)",
        "__len__": "(self)", "__contains__": "(self, claim)"}},
    "library": {"Library": {
        "__init__": "(self)", "makes_of": "(self, name)", "opens_of": "(self, name)", "entry": "(self, name)",
        "entry_names": "(self)", "meeting": "(self, name, i, j)", "gaps": "(self)", "twin": "(self)",
        "define": "(self, name, *, makes=(), opens=(), limit=500)", "undefine": "(self, name)",
        "keep": "(self, name, sentence, derivation)", "forget": "(self, name)", "__contains__": "(self, name)",
        "__len__": "(self)", "__iter__": "(self)"}},
    "tallies": {"Tally": {
        "__init__": "(self, plays, rows, load)", "__add__": "(self, other)", "__mul__": "(self, other)",
        "copied": "(self, n)", "taller": "(self, k)", "loaded": "(self, k)", "cut": "(self, factor)",
        "triple": "(self)"}},
    "worlds": {"World": {
        "__init__": "(self, products, facts)", "__len__": "(self)", "product": "(self, a, b)",
        "has": "(self, element, sentence)", "fails": "(self, claim, places)"}},
    "desk": {"Desk": {
        "__init__": "(self, library, claim)", "numbers": "(self)", "goal": "(self, number)",
        "own": "(self, number, hold)", "take": "(self, number, new)", "offer": "(self, number)",
        "pick": "(self, number, hold, side, new)", "pay": "(self, number, hold, new, *, share=())",
        "make": "(self, number, index)", "unpack": "(self, number, hold, index, new)",
        "cut": "(self, number, sentence, new, *, kind='once', share=())", "cite": "(self, number, entry)",
        "fill": "(self, number, derivation)", "seek": "(self, number, *, limit=500)", "undo": "(self)",
        "redo": "(self)", "journal": "(self)", "built": "(self)", "__len__": "(self)", "__iter__": "(self)"}},
}

PROPERTIES = {"library": {"Library": ["is_whole"]}, "desk": {"Desk": ["is_finished"]}}


class InterfaceTest(unittest.TestCase):
    def test_functions_with_their_arguments(self):
        for file, lines in FUNCTIONS.items():
            module = importlib.import_module("heldproofs." + file)
            for line in lines:
                name = line.partition("(")[0]
                self.assertEqual(name + str(inspect.signature(getattr(module, name))), line)

    def test_functions_are_defined_in_their_files(self):
        for file, lines in FUNCTIONS.items():
            module = importlib.import_module("heldproofs." + file)
            defined = [node.name for node in ast.parse(inspect.getsource(module)).body
                       if isinstance(node, ast.FunctionDef)]
            for line in lines:
                self.assertIn(line.partition("(")[0], defined)

    def test_classes_define_their_methods_themselves(self):
        for file, classes in CLASSES.items():
            module = importlib.import_module("heldproofs." + file)
            for name, methods in classes.items():
                made = getattr(module, name)
                self.assertEqual(made.__module__, "heldproofs." + file)
                for method, arguments in methods.items():
                    self.assertIn(method, vars(made))
                    self.assertEqual(str(inspect.signature(vars(made)[method])), arguments)

    def test_properties_stand_in_the_class(self):
        for file, classes in PROPERTIES.items():
            module = importlib.import_module("heldproofs." + file)
            for name, properties in classes.items():
                for each in properties:
                    self.assertIsInstance(vars(getattr(module, name))[each], property)


if __name__ == "__main__":
    unittest.main()
