"""The form of the package: those rules of its language that a short look can tell."""

import ast
import builtins
import os
import unittest
import warnings

FOLDER = os.path.join(os.path.dirname(os.path.dirname(os.path.abspath(__file__))), "heldproofs")

BUILTINS = set("""len range enumerate zip min max sum abs sorted reversed int str bool bytes list tuple dict
    set frozenset isinstance ord repr any all divmod pow Exception ValueError TypeError KeyError IndexError
    LookupError ZeroDivisionError ArithmeticError OverflowError RuntimeError NotImplementedError
    AttributeError StopIteration NotImplemented iter next property super map""".split())

METHODS = set("""append clear copy count endswith extend find get index insert isalnum isalpha isdigit islower
    isspace isupper items join keys ljust lower lstrip partition pop remove replace reverse rfind rjust
    rpartition rsplit rstrip setdefault split splitlines startswith strip update upper values zfill
    bit_length add discard sort""".split())

BARRED = set("""register mro elements open input law version_info with_traceback add_note breakpoint builtins
    compile copyright credits delattr dir eval exec exit gc getattr globals hasattr help id importlib license
    locals methodcaller os quit setattr type vars sys attrgetter""".split())

CHANGING = set("append clear extend insert pop remove reverse setdefault update add discard sort".split())

STATEMENTS = (ast.FunctionDef, ast.ClassDef, ast.ImportFrom, ast.Assign, ast.Expr)


def files():
    found = {}
    for name in sorted(os.listdir(FOLDER)):
        if name.endswith(".py"):
            with open(os.path.join(FOLDER, name), encoding="utf-8") as file:
                found[name] = file.read()
    return found


def functions(tree):
    return [node for node in ast.walk(tree) if isinstance(node, ast.FunctionDef)]


def bound(node):
    """All names that are bound within a function: its parameters and its variables."""
    names = {inner.arg for inner in ast.walk(node) if isinstance(inner, ast.arg)}
    return names | {inner.id for inner in ast.walk(node)
                    if isinstance(inner, ast.Name) and isinstance(inner.ctx, ast.Store)}


def plain_value(node, above):
    """Evaluate a literal, or a dictionary from literals to functions that are defined above it."""
    if isinstance(node, ast.Dict) and all(isinstance(value, ast.Name) and value.id in above for value in node.values):
        return [ast.literal_eval(key) for key in node.keys]
    return ast.literal_eval(node)


class FormTest(unittest.TestCase):
    def setUp(self):
        self.files = files()
        self.trees = {name: ast.parse(text) for name, text in self.files.items()}

    def defined(self, name):
        tree = self.trees[name]
        made = {node.name for node in tree.body if isinstance(node, (ast.FunctionDef, ast.ClassDef))}
        return made | {target.id for node in tree.body if isinstance(node, ast.Assign)
                       for target in node.targets}

    def imported(self, name):
        return {alias.name: node.module for node in self.trees[name].body
                if isinstance(node, ast.ImportFrom) for alias in node.names}

    def test_folder(self):
        others = [name for name in os.listdir(FOLDER) if not name.endswith(".py") and name != "__pycache__"]
        self.assertEqual(others, [])
        self.assertIn("__init__.py", self.files)

    def test_characters_and_sizes(self):
        for name, text in self.files.items():
            self.assertEqual({char for char in text if not (" " <= char <= "~" or char == "\n")}, set(), name)
            lines = text.splitlines()
            self.assertLessEqual(len(lines), 399, name)
            self.assertLessEqual(max(map(len, lines), default=0), 120, name)
            for node in functions(self.trees[name]):
                self.assertLessEqual(node.end_lineno - node.lineno + 1, 40, (name, node.name))

    def test_module_level(self):
        for name, tree in self.trees.items():
            above = set()
            for node in tree.body:
                self.assertIsInstance(node, STATEMENTS, (name, node.lineno))
                if isinstance(node, ast.Expr):
                    self.assertIsInstance(node.value, ast.Constant, (name, node.lineno))
                if isinstance(node, ast.Assign):
                    plain_value(node.value, above)
                if isinstance(node, ast.FunctionDef):
                    above.add(node.name)
            bound_here = list(self.imported(name)) + [node.name for node in tree.body if hasattr(node, "name")]
            bound_here += [node.targets[0].id for node in tree.body if isinstance(node, ast.Assign)]
            self.assertEqual(len(bound_here), len(set(bound_here)), name)

    def test_imports_name_the_defining_file(self):
        for name in self.files:
            nodes = [node for node in ast.walk(self.trees[name]) if isinstance(node, (ast.Import, ast.ImportFrom))]
            for node in nodes:
                self.assertIsInstance(node, ast.ImportFrom)
                self.assertEqual([alias.asname for alias in node.names], [None] * len(node.names))
            for thing, module in self.imported(name).items():
                self.assertTrue(module.startswith("heldproofs."), (name, module))
                self.assertIn(thing, self.defined(module.partition(".")[2] + ".py"), (name, module))

    def test_imports_are_used_and_go_no_ring(self):
        reached = {name: {module.partition(".")[2] + ".py" for module in self.imported(name).values()}
                   for name in self.files}
        for _ in self.files:
            reached = {name: set.union(found, *[reached[other] for other in found])
                       for name, found in reached.items()}
        for name, found in reached.items():
            self.assertNotIn(name, found)
            used = {node.id for node in ast.walk(self.trees[name]) if isinstance(node, ast.Name)}
            self.assertEqual(set(self.imported(name)) - used, set(), name)

    def test_names(self):
        for name, tree in self.trees.items():
            taken = set(self.imported(name)) | {node.name for node in tree.body if isinstance(node, ast.ClassDef)}
            for node in functions(tree):
                self.assertEqual(bound(node) & taken, set(), (name, node.name))
                # A doctest that ran before leaves an underscore among the builtins.
                self.assertEqual(bound(node) & set(dir(builtins)) - {"_"}, set(), (name, node.name))
                self.assertEqual((bound(node) | {node.name}) & BARRED, set(), (name, node.name))
                self.assertNotIn(node.name, dir(builtins))
            used = {node.id for node in ast.walk(tree) if isinstance(node, ast.Name)}
            self.assertEqual((used & set(dir(builtins))) - BUILTINS, set(), name)

    def test_methods_that_are_called(self):
        own = {node.name for tree in self.trees.values() for part in ast.walk(tree)
               if isinstance(part, ast.ClassDef) for node in part.body if isinstance(node, ast.FunctionDef)}
        for name, tree in self.trees.items():
            called = {node.func.attr for node in ast.walk(tree)
                      if isinstance(node, ast.Call) and isinstance(node.func, ast.Attribute)}
            self.assertEqual(called - METHODS - own, set(), name)

    def test_expressions(self):
        barred = (ast.Div, ast.Global, ast.Set, ast.SetComp, ast.Await, ast.AsyncFunctionDef, ast.Starred)
        for name, tree in self.trees.items():
            for node in ast.walk(tree):
                self.assertNotIsInstance(node, barred, (name, getattr(node, "lineno", 0)))
                if isinstance(node, ast.Constant):
                    self.assertNotIsInstance(node.value, (float, complex, bytes))
                    self.assertFalse(isinstance(node.value, str) and "%" in node.value, (name, node.lineno))
                if isinstance(node, (ast.FunctionDef, ast.ClassDef)):
                    self.assertEqual([item for item in node.decorator_list
                                      if not (isinstance(item, ast.Name) and item.id == "property")], [])

    def test_no_warnings(self):
        for name, text in self.files.items():
            with warnings.catch_warnings():
                warnings.simplefilter("error")
                compile(text, name, "exec")

    def test_loops_do_not_change_what_they_go_over(self):
        for name, tree in self.trees.items():
            for node in ast.walk(tree):
                if isinstance(node, ast.For):
                    over = {ast.unparse(part) for part in ast.walk(node.iter)
                            if isinstance(part, (ast.Name, ast.Attribute, ast.Subscript))}
                    for part in ast.walk(ast.Module(node.body, [])):
                        if isinstance(part, ast.Call) and isinstance(part.func, ast.Attribute):
                            if part.func.attr in CHANGING:
                                self.assertNotIn(ast.unparse(part.func.value), over, (name, part.lineno))
                        if isinstance(part, (ast.Subscript, ast.Attribute)) and not isinstance(part.ctx, ast.Load):
                            changed = part.value if isinstance(part, ast.Subscript) else part
                            self.assertNotIn(ast.unparse(changed), over, (name, part.lineno))

    def test_no_generator_expressions_beside_lengths(self):
        # A class with its own length asks for lists in all, any, sum and the like.
        for name, tree in self.trees.items():
            for node in ast.walk(tree):
                self.assertNotIsInstance(node, ast.GeneratorExp, (name, getattr(node, "lineno", 0)))

    def test_no_state_at_module_level(self):
        for name, tree in self.trees.items():
            for node in tree.body:
                if isinstance(node, ast.Assign) and isinstance(node.value, (ast.List, ast.Dict, ast.Tuple)):
                    inner = [part for part in ast.walk(node.value) if isinstance(part, (ast.List, ast.Dict))]
                    self.assertLessEqual(len(inner), 1, (name, node.lineno))


if __name__ == "__main__":
    unittest.main()
