"""Tests of some rules of the language subset: L1, L2, L4, L5, L7, L10, L14, L15, L17, L25 and L27."""

import ast
import builtins
import os
import re
import unittest

FOLDER = os.path.join(os.path.dirname(os.path.abspath(__file__)), os.pardir, "twochoosers")
LIBRARY = {
    "heapq": {"heappush", "heappop", "heapify", "heapreplace", "heappushpop"},
    "math": {"gcd", "lcm", "isqrt", "comb", "perm", "factorial"},
    "itertools": {"product", "combinations", "permutations"},
}
DECORATORS = {"property", "staticmethod", "classmethod"}
# The package has classes with `__eq__`, so these take lists.
TAKE_LISTS = {"any", "all", "min", "max", "sum", "sorted"}
NOT_IN_CODE = {
    "typing", "enum", "Enum", "Generic", "Protocol", "ABC", "namedtuple", "dataclass", "open", "input",
    "register", "elements", "law", "mro", "_wall",
}


def sources():
    """The text of each file of the package, by the name of the file."""
    texts = {}
    for name in sorted(os.listdir(FOLDER)):
        if name != "__pycache__":
            with open(os.path.join(FOLDER, name), encoding="utf-8", newline="") as file:
                texts[name] = file.read()
    return texts


class LanguageTest(unittest.TestCase):

    def test_files(self):
        self.assertIn("__init__.py", sources())
        for name in sources():
            self.assertRegex(name, r"\A[a-z0-9_]+\.py\Z")

    def test_characters(self):
        for name, text in sources().items():
            self.assertRegex(text, r"\A[\n -~]*\Z", name)

    def test_sizes(self):
        for name, text in sources().items():
            lines = text.split("\n")
            self.assertLessEqual(len(lines), 399, name)
            self.assertLessEqual(max(len(line) for line in lines), 120, name)
            for node in ast.walk(ast.parse(text)):
                if isinstance(node, ast.FunctionDef):
                    self.assertLessEqual(node.end_lineno - node.lineno + 1, 40, (name, node.name))

    def test_imports(self):
        for name, text in sources().items():
            for node in ast.walk(ast.parse(text)):
                self.assertNotIsInstance(node, ast.Import, name)
                if isinstance(node, ast.ImportFrom):
                    self.assertEqual(node.level, 0, name)
                    if node.module in LIBRARY:
                        names = {alias.name for alias in node.names}
                        self.assertLessEqual(names, LIBRARY[node.module], name)
                    else:
                        self.assertRegex(node.module, r"\Atwochoosers\.[a-z0-9_]+\Z", name)

    def test_strings(self):
        for name, text in sources().items():
            for node in ast.walk(ast.parse(text)):
                if isinstance(node, ast.Constant) and isinstance(node.value, str):
                    self.assertNotIn("%", node.value, (name, node.lineno))

    def nodes(self, *kinds):
        """All nodes of these kinds, each with the name of its file."""
        for name, text in sources().items():
            for node in ast.walk(ast.parse(text)):
                if isinstance(node, kinds):
                    yield name, node

    def test_decorators(self):
        for name, node in self.nodes(ast.FunctionDef, ast.ClassDef):
            for mark in node.decorator_list:
                known = isinstance(mark, ast.Name) and mark.id in DECORATORS
                self.assertTrue(known or getattr(mark, "attr", None) == "setter", (name, node.name))

    def test_classes_with_items_say_how_they_are_iterated_over(self):
        for name, node in self.nodes(ast.ClassDef):
            methods = [part.name for part in node.body if isinstance(part, ast.FunctionDef)]
            self.assertEqual(len(methods), len(set(methods)), (name, node.name))
            if "__getitem__" in methods:
                self.assertIn("__iter__", methods, (name, node.name))

    def test_no_generator_where_a_list_is_taken(self):
        for name, node in self.nodes(ast.Call):
            if isinstance(node.func, ast.Name) and node.func.id in TAKE_LISTS:
                for given in node.args:
                    self.assertNotIsInstance(given, ast.GeneratorExp, (name, node.lineno))
            if isinstance(node.func, ast.Attribute):
                self.assertNotEqual(node.func.attr, "sort", (name, node.lineno))

    def test_no_name_has_two_meanings(self):
        for name, text in sources().items():
            tree = ast.parse(text)
            fixed = set(dir(builtins))
            for node in ast.walk(tree):
                if isinstance(node, ast.ImportFrom):
                    fixed |= {alias.name for alias in node.names}
            bound = {node.name for node in tree.body if isinstance(node, (ast.FunctionDef, ast.ClassDef))}
            self.assertFalse(bound & fixed, name)
            fixed |= {node.name for node in tree.body if isinstance(node, ast.ClassDef)}
            for node in ast.walk(tree):
                if isinstance(node, ast.arg):
                    self.assertNotIn(node.arg, fixed, name)
                if isinstance(node, ast.Name) and isinstance(node.ctx, ast.Store):
                    self.assertNotIn(node.id, fixed, (name, node.lineno))

    def test_words_that_do_not_occur(self):
        for name, text in sources().items():
            self.assertFalse(NOT_IN_CODE & set(re.findall("[A-Za-z_]+", text)), name)


if __name__ == "__main__":
    unittest.main()
