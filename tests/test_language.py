"""Tests of some rules of the language subset: L1, L2, L10, L14 and L27."""

import ast
import os
import unittest

FOLDER = os.path.join(os.path.dirname(os.path.abspath(__file__)), os.pardir, "twochoosers")
LIBRARY = {
    "heapq": {"heappush", "heappop", "heapify", "heapreplace", "heappushpop"},
    "math": {"gcd", "lcm", "isqrt", "comb", "perm", "factorial"},
    "itertools": {"product", "combinations", "permutations"},
}


def sources():
    """The text of each file of the package, by the name of the file."""
    texts = {}
    for name in sorted(os.listdir(FOLDER)):
        if name != "__pycache__":
            with open(os.path.join(FOLDER, name), encoding="utf-8", newline="") as file:
                texts[name] = file.read()
    return texts


class LanguageTest(unittest.TestCase):

    def test_files(self):
        self.assertIn("__init__.py", sources())
        for name in sources():
            self.assertRegex(name, r"\A[a-z0-9_]+\.py\Z")

    def test_characters(self):
        for name, text in sources().items():
            self.assertRegex(text, r"\A[\n -~]*\Z", name)

    def test_sizes(self):
        for name, text in sources().items():
            lines = text.split("\n")
            self.assertLessEqual(len(lines), 399, name)
            self.assertLessEqual(max(len(line) for line in lines), 120, name)
            for node in ast.walk(ast.parse(text)):
                if isinstance(node, ast.FunctionDef):
                    self.assertLessEqual(node.end_lineno - node.lineno + 1, 40, (name, node.name))

    def test_imports(self):
        for name, text in sources().items():
            for node in ast.walk(ast.parse(text)):
                self.assertNotIsInstance(node, ast.Import, name)
                if isinstance(node, ast.ImportFrom):
                    self.assertEqual(node.level, 0, name)
                    if node.module in LIBRARY:
                        names = {alias.name for alias in node.names}
                        self.assertLessEqual(names, LIBRARY[node.module], name)
                    else:
                        self.assertRegex(node.module, r"\Atwochoosers\.[a-z0-9_]+\Z", name)

    def test_strings(self):
        for name, text in sources().items():
            for node in ast.walk(ast.parse(text)):
                if isinstance(node, ast.Constant) and isinstance(node.value, str):
                    self.assertNotIn("%", node.value, (name, node.lineno))


if __name__ == "__main__":
    unittest.main()
