"""Those rules of the language that a test can see at a glance."""

import ast
import builtins
import re
import unittest
from pathlib import Path

PACKAGE = Path(__file__).resolve().parent.parent / "chainsum"
FILES = sorted(PACKAGE.rglob("*.py"))
LIBRARY = {
    "math": {"gcd", "lcm", "isqrt", "comb", "perm", "factorial"},
    "heapq": {"heappush", "heappop", "heapify", "heapreplace", "heappushpop"},
    "itertools": {"product", "combinations", "permutations", "chain", "accumulate", "pairwise", "islice", "zip_longest"},
    "collections": {"defaultdict", "deque"},
}
BUILTINS = set(
    "len range enumerate zip min max sum abs sorted reversed int str bool bytes list tuple dict set isinstance ord repr any"
    " all divmod pow iter next type map property staticmethod classmethod super ValueError TypeError KeyError IndexError"
    " LookupError ZeroDivisionError Exception ArithmeticError OverflowError RuntimeError NotImplementedError"
    " AttributeError StopIteration NotImplemented".split()
)
REFUSED = (ast.Div, ast.MatMult, ast.Import, ast.AsyncFunctionDef, ast.AsyncFor, ast.AsyncWith, ast.Await)


def bound_names(tree):
    """The names that a file gives to parameters, variables, functions and classes."""
    for node in ast.walk(tree):
        if isinstance(node, ast.arg):
            yield node.arg
        elif isinstance(node, ast.Name) and not isinstance(node.ctx, ast.Load):
            yield node.id
        elif isinstance(node, (ast.FunctionDef, ast.ClassDef)):
            yield node.name


class Language(unittest.TestCase):
    def each_file(self):
        for path in FILES:
            with self.subTest(path=path.name):
                text = path.read_text(encoding="utf-8")
                yield text, ast.parse(text)

    def test_the_package_is_one_folder_of_files_with_plain_names(self):
        self.assertTrue((PACKAGE / "__init__.py").is_file())
        for path in PACKAGE.iterdir():
            if path.name != "__pycache__":
                self.assertRegex(path.name, r"^(__init__|__main__|[a-z][a-z0-9_]*)\.py$")

    def test_characters_and_sizes(self):
        for text, tree in self.each_file():
            self.assertRegex(text, r"\A[ -~\n]*\Z")
            lines = text.splitlines()
            self.assertLessEqual(len(lines), 399)
            self.assertLessEqual(max(map(len, lines), default=0), 120)
            for node in ast.walk(tree):
                if isinstance(node, ast.FunctionDef):
                    self.assertLessEqual(node.end_lineno - node.lineno + 1, 40, node.name)

    def test_imports(self):
        for _, tree in self.each_file():
            for node in ast.walk(tree):
                if isinstance(node, ast.ImportFrom):
                    self.assertEqual(node.level, 0)
                    names = {alias.name for alias in node.names}
                    if not re.match(r"chainsum\.[a-z]", node.module):
                        self.assertLessEqual(names, LIBRARY.get(node.module, set()), node.module)
                    self.assertNotIn("*", names)

    def test_values_and_statements(self):
        for _, tree in self.each_file():
            for node in ast.walk(tree):
                self.assertNotIsInstance(node, REFUSED)
                if isinstance(node, ast.Constant):
                    self.assertNotIsInstance(node.value, (float, complex))

    def test_builtins(self):
        for _, tree in self.each_file():
            bound = set(bound_names(tree))
            self.assertEqual(bound & set(dir(builtins)), set())
            for node in ast.walk(tree):
                if isinstance(node, ast.Name) and hasattr(builtins, node.id):
                    self.assertIn(node.id, BUILTINS)

    def test_a_file_gives_each_name_once(self):
        for _, tree in self.each_file():
            names = [node.name for node in tree.body if isinstance(node, (ast.FunctionDef, ast.ClassDef))]
            for node in tree.body:
                if isinstance(node, ast.Assign):
                    names.extend(target.id for target in node.targets)
                elif isinstance(node, ast.ImportFrom):
                    names.extend(alias.name for alias in node.names)
            self.assertEqual(sorted(names), sorted(set(names)))


if __name__ == "__main__":
    unittest.main()
