"""Tests of some rules of the language subset: L1 to L8, L10, L12, L14 to L20 and L22 to L28."""

import ast
import builtins
import os
import re
import unittest

from twochoosers import errors

FOLDER = os.path.join(os.path.dirname(os.path.abspath(__file__)), os.pardir, "twochoosers")
LIBRARY = {
    "heapq": {"heappush", "heappop", "heapify", "heapreplace", "heappushpop"},
    "math": {"gcd", "lcm", "isqrt", "comb", "perm", "factorial"},
    "itertools": {"product", "combinations", "permutations"},
}
DECORATORS = {"property", "staticmethod", "classmethod"}
# The package has classes with `__eq__`, so these take lists.
TAKE_LISTS = {"any", "all", "min", "max", "sum", "sorted"}
NOT_IN_CODE = {
    "typing", "enum", "Enum", "Generic", "Protocol", "ABC", "namedtuple", "dataclass", "open", "input",
    "register", "elements", "law", "mro", "_wall",
}
BUILTINS = {
    "len", "range", "enumerate", "zip", "min", "max", "sum", "abs", "sorted", "reversed", "int", "str",
    "bool", "list", "tuple", "dict", "set", "isinstance", "ord", "repr", "any", "all", "divmod",
    "property", "classmethod", "staticmethod", "ValueError", "TypeError",
}
# The double-underscore methods of the package; the numbers of their parameters follow from L5.
METHODS = {
    "__init__": None, "__eq__": 2, "__str__": 1, "__len__": 1, "__iter__": 1, "__getitem__": 2,
    "__setitem__": 3, "__contains__": 2, "__invert__": 1, "__or__": 2, "__and__": 2,
}
# The methods of builtin values that the package uses, all of L25.
OF_BUILTINS = {
    "append", "index", "join", "pop", "replace", "split",
}
# Names that the package may not give to its own methods and attributes, since builtin values have them.
TAKEN = {
    name for kind in (int, str, bytes, list, tuple, dict, set) for name in dir(kind)
    if not name.startswith("__")
}
AT_ONCE = {"list", "tuple", "dict", "sorted", "sum", "any", "all", "enumerate", "zip", "min", "max"}


def sources():
    """The text of each file of the package, by the name of the file."""
    texts = {}
    for name in sorted(os.listdir(FOLDER)):
        if name != "__pycache__":
            with open(os.path.join(FOLDER, name), encoding="utf-8", newline="") as file:
                texts[name] = file.read()
    return texts


class LanguageTest(unittest.TestCase):

    def test_files(self):
        self.assertIn("__init__.py", sources())
        for name in sources():
            self.assertRegex(name, r"\A[a-z0-9_]+\.py\Z")

    def test_characters(self):
        for name, text in sources().items():
            self.assertRegex(text, r"\A[\n -~]*\Z", name)

    def test_sizes(self):
        for name, text in sources().items():
            lines = text.split("\n")
            self.assertLessEqual(len(lines), 399, name)
            self.assertLessEqual(max(len(line) for line in lines), 120, name)
            for node in ast.walk(ast.parse(text)):
                if isinstance(node, ast.FunctionDef):
                    self.assertLessEqual(node.end_lineno - node.lineno + 1, 40, (name, node.name))

    def test_imports(self):
        for name, text in sources().items():
            for node in ast.walk(ast.parse(text)):
                self.assertNotIsInstance(node, ast.Import, name)
                if isinstance(node, ast.ImportFrom):
                    self.assertEqual(node.level, 0, name)
                    if node.module in LIBRARY:
                        names = {alias.name for alias in node.names}
                        self.assertLessEqual(names, LIBRARY[node.module], name)
                    else:
                        self.assertRegex(node.module, r"\Atwochoosers\.[a-z0-9_]+\Z", name)

    def test_strings(self):
        for name, text in sources().items():
            for node in ast.walk(ast.parse(text)):
                if isinstance(node, ast.Constant) and isinstance(node.value, str):
                    self.assertNotIn("%", node.value, (name, node.lineno))

    def nodes(self, *kinds):
        """All nodes of these kinds, each with the name of its file."""
        for name, text in sources().items():
            for node in ast.walk(ast.parse(text)):
                if isinstance(node, kinds):
                    yield name, node

    def test_decorators(self):
        for name, node in self.nodes(ast.FunctionDef, ast.ClassDef):
            for mark in node.decorator_list:
                known = isinstance(mark, ast.Name) and mark.id in DECORATORS
                self.assertTrue(known or getattr(mark, "attr", None) == "setter", (name, node.name))

    def test_classes_with_items_say_how_they_are_iterated_over(self):
        for name, node in self.nodes(ast.ClassDef):
            methods = [part.name for part in node.body if isinstance(part, ast.FunctionDef)]
            self.assertEqual(len(methods), len(set(methods)), (name, node.name))
            if "__getitem__" in methods:
                self.assertIn("__iter__", methods, (name, node.name))

    def test_no_generator_where_a_list_is_taken(self):
        for name, node in self.nodes(ast.Call):
            if isinstance(node.func, ast.Name) and node.func.id in TAKE_LISTS:
                for given in node.args:
                    self.assertNotIsInstance(given, ast.GeneratorExp, (name, node.lineno))
            if isinstance(node.func, ast.Attribute):
                self.assertNotEqual(node.func.attr, "sort", (name, node.lineno))

    def test_no_name_has_two_meanings(self):
        for name, text in sources().items():
            tree = ast.parse(text)
            fixed = set(dir(builtins))
            for node in ast.walk(tree):
                if isinstance(node, ast.ImportFrom):
                    fixed |= {alias.name for alias in node.names}
            bound = {node.name for node in tree.body if isinstance(node, (ast.FunctionDef, ast.ClassDef))}
            self.assertFalse(bound & fixed, name)
            fixed |= {node.name for node in tree.body if isinstance(node, ast.ClassDef)}
            for node in ast.walk(tree):
                if isinstance(node, ast.arg):
                    self.assertNotIn(node.arg, fixed, name)
                if isinstance(node, ast.Name) and isinstance(node.ctx, ast.Store):
                    self.assertNotIn(node.id, fixed, (name, node.lineno))

    def parents(self):
        """All nodes, each with its parent and the name of its file."""
        for name, text in sources().items():
            for node in ast.walk(ast.parse(text)):
                for child in ast.iter_child_nodes(node):
                    yield name, node, child

    def own_names(self):
        """The names of the functions and classes, of the methods, of the properties and of the attributes."""
        functions, methods, properties, attributes = set(), set(), set(), set()
        for _, node in self.nodes(ast.Module, ast.ClassDef):
            for part in node.body:
                if isinstance(part, ast.ClassDef) or isinstance(node, ast.Module) and isinstance(part, ast.FunctionDef):
                    functions.add(part.name)
                elif isinstance(part, ast.FunctionDef):
                    marks = [mark.id for mark in part.decorator_list]
                    (properties if "property" in marks else methods).add(part.name)
        for _, node in self.nodes(ast.Attribute):
            if isinstance(node.ctx, ast.Store):
                attributes.add(node.attr)
        return functions, methods, properties, attributes

    def test_module_level(self):
        for name, text in sources().items():
            for node in ast.parse(text).body:
                if isinstance(node, ast.Assign):
                    ast.literal_eval(node.value)
                    self.assertEqual([type(target) for target in node.targets], [ast.Name], name)
                elif isinstance(node, ast.Expr):
                    self.assertIsInstance(node.value, ast.Constant, name)
                else:
                    self.assertIsInstance(node, (ast.ImportFrom, ast.FunctionDef, ast.ClassDef), name)

    def test_imports_lead_to_the_defining_file_and_never_around(self):
        leads, defined = {}, {}
        for name, text in sources().items():
            body = ast.parse(text).body
            module = "twochoosers." + name[:-3]
            defined[module] = {part.name for part in body if isinstance(part, (ast.FunctionDef, ast.ClassDef))}
            defined[module] |= {part.targets[0].id for part in body if isinstance(part, ast.Assign)}
            found = [part for part in body if isinstance(part, ast.ImportFrom)]
            leads[module] = {part.module: {alias.name for alias in part.names} for part in found}
            used = {node.id for node in ast.walk(ast.parse(text)) if isinstance(node, ast.Name)}
            for names in leads[module].values():
                self.assertLessEqual(names, used, name)
        while leads:
            last = [module for module in leads if not set(leads[module]) & set(leads)]
            self.assertTrue(last, leads)
            for module in last:
                for there, names in leads.pop(module).items():
                    self.assertLessEqual(names, defined[there], module)

    def test_builtins(self):
        for name, node in self.nodes(ast.Name):
            if isinstance(node.ctx, ast.Load) and node.id in dir(builtins):
                self.assertIn(node.id, BUILTINS, (name, node.lineno))

    def test_kinds_of_statements_and_expressions(self):
        barred = (
            ast.Global, ast.AsyncFunctionDef, ast.Import, ast.YieldFrom, ast.Div, ast.Await, ast.With, ast.AnnAssign,
            ast.NamedExpr, ast.Pow, ast.Assert, ast.Delete, ast.Match, ast.SetComp)
        for name, node in self.nodes(*barred):
            # The only set comprehension stands directly in `sorted`, which another test looks at.
            self.assertIsInstance(node, ast.SetComp, (name, getattr(node, "lineno", None)))
        for name, node in self.nodes(ast.Constant):
            self.assertNotIsInstance(node.value, (float, complex, bytes), (name, node.lineno))
        for name, node in self.nodes(ast.Compare):
            for sign, other in zip(node.ops, node.comparators):
                if isinstance(sign, (ast.Is, ast.IsNot)):
                    self.assertIn(getattr(other, "value", 0), (None, True, False), (name, node.lineno))
        for name, node in self.nodes(ast.ExceptHandler):
            self.assertIn(node.type.id, vars(errors), (name, node.lineno))

    def test_sets_stand_in_sorted(self):
        for name, parent, child in self.parents():
            called = isinstance(child, ast.Call) and getattr(child.func, "id", None) == "set"
            if called or isinstance(child, (ast.Set, ast.SetComp)):
                self.assertEqual(parent.func.id, "sorted", (name, child.lineno))

    def test_what_is_iterated_at_once(self):
        for name, parent, child in self.parents():
            called = getattr(child.func, "id", None) if isinstance(child, ast.Call) else None
            if called in ("zip", "enumerate", "reversed", "range"):
                looped = isinstance(parent, (ast.For, ast.comprehension)) and parent.iter is child
                taken = isinstance(parent, ast.Call) and getattr(parent.func, "id", None) in AT_ONCE
                self.assertTrue(looped or taken, (name, child.lineno))

    def test_stars_stand_before_names(self):
        for name, node in self.nodes(ast.Call):
            for given in node.args:
                if isinstance(given, ast.Starred):
                    self.assertIsInstance(given.value, ast.Name, (name, node.lineno))

    def test_keywords(self):
        for name, node in self.nodes(ast.Call):
            words = {keyword.arg for keyword in node.keywords}
            if isinstance(node.func, ast.Name) and node.func.id in dir(builtins):
                allowed = {"sorted": {"key", "reverse"}, "max": {"key", "default"}, "min": {"key", "default"}}
                self.assertLessEqual(words, allowed.get(node.func.id, set()), (name, node.lineno))

    def test_own_names(self):
        functions, methods, properties, attributes = self.own_names()
        self.assertFalse(properties & (methods | attributes | TAKEN))
        # L26 lets an attribute have this name.
        self.assertFalse((methods | attributes - {"count"}) & TAKEN)
        self.assertFalse(methods & attributes)
        for name in methods:
            if name.startswith("__"):
                self.assertIn(name, METHODS)
        for name in functions | properties | attributes:
            self.assertRegex(name, r"\A_?[A-Za-z][A-Za-z0-9_]*\Z")
        for name, node in self.nodes(ast.Call):
            if isinstance(node.func, ast.Attribute):
                known = methods | OF_BUILTINS
                self.assertIn(node.func.attr, known, (name, node.lineno))
        for name, node in self.nodes(ast.Attribute):
            if isinstance(node.ctx, ast.Load):
                known = methods | properties | attributes | OF_BUILTINS
                self.assertIn(node.attr, known, (name, node.lineno))

    def test_double_underscore_methods(self):
        for name, node in self.nodes(ast.FunctionDef):
            if node.name in METHODS and METHODS[node.name] is not None:
                self.assertEqual(len(node.args.args), METHODS[node.name], (name, node.name))
                self.assertEqual(node.args.defaults, [], (name, node.name))
            if node.name in ("__eq__", "__str__", "__len__"):
                self.assertIsInstance(node.body[-1], ast.Return, (name, node.name))
            if node.name == "__len__":
                self.assertEqual(node.body[-1].value.func.id, "len", name)
            # An operator changes nothing that it did not create itself.
            if node.name.startswith("__") and node.name not in ("__init__", "__setitem__"):
                for part in ast.walk(node):
                    if isinstance(part, (ast.Attribute, ast.Subscript)):
                        self.assertIsInstance(part.ctx, ast.Load, (name, node.name))

    def test_no_generator_has_the_name_of_another_function(self):
        names = [node.name for _, node in self.nodes(ast.FunctionDef)]
        for name, node in self.nodes(ast.FunctionDef):
            if any(isinstance(part, ast.Yield) for part in ast.walk(node)):
                self.assertEqual(names.count(node.name), 1, (name, node.name))

    def test_words_that_do_not_occur(self):
        for name, text in sources().items():
            self.assertFalse(NOT_IN_CODE & set(re.findall("[A-Za-z_]+", text)), name)


if __name__ == "__main__":
    unittest.main()
