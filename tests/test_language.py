"""The files of the package: what they import and call, and the sizes and signs of their rows."""

import ast
import builtins
import unittest
from pathlib import Path

PACKAGE = Path(__file__).resolve().parent.parent / "treetrain"
FILES = sorted(path for path in PACKAGE.rglob("*") if "__pycache__" not in path.parts)
BUILTINS = (
    "len range enumerate zip min max sum abs sorted reversed int str bool bytes list tuple dict set frozenset isinstance "
    "ord repr any all divmod iter next map property staticmethod classmethod super ValueError RuntimeError LookupError "
    "TypeError KeyError IndexError ZeroDivisionError ArithmeticError OverflowError NotImplementedError Exception "
    "NotImplemented True False None"
).split()
LIBRARY = ("heapq", "math", "itertools", "collections")
# What a clock, a random source, files, the network and the environment would be reached by.
BARRED = "open input print eval exec compile globals locals vars id hash breakpoint".split()


def rows_of(path):
    return path.read_text(encoding="ascii").split("\n")


class Language(unittest.TestCase):
    def setUp(self):
        self.trees = {path: ast.parse(path.read_text(encoding="ascii")) for path in FILES if path.is_file()}

    def nodes(self, *kinds):
        return [(path, node) for path, tree in self.trees.items() for node in ast.walk(tree) if isinstance(node, kinds)]

    def test_the_folder_holds_files_of_the_language_only(self):
        self.assertIn(PACKAGE / "__init__.py", FILES)
        for path in FILES:
            self.assertEqual(path.suffix, ".py", path)

    def test_imports_are_of_the_package(self):
        for path, node in self.nodes(ast.Import, ast.ImportFrom):
            self.assertIsInstance(node, ast.ImportFrom, path)
            self.assertEqual(node.level, 0, path)
            self.assertTrue(node.module.startswith("treetrain.") or node.module in LIBRARY, (path, node.module))

    def test_builtins(self):
        for path, node in self.nodes(ast.Name):
            self.assertNotIn(node.id, BARRED, path)
            # A doctest that ran before leaves its last value in the builtins as _.
            if node.id in vars(builtins) and node.id != "_":
                self.assertIn(node.id, BUILTINS, (path, node.lineno))

    def test_no_file_keeps_state_or_runs_anything(self):
        kinds = (ast.Import, ast.ImportFrom, ast.FunctionDef, ast.ClassDef, ast.Assign, ast.Expr)
        for path, tree in self.trees.items():
            for node in tree.body:
                self.assertIsInstance(node, kinds, (path, node.lineno))
                if isinstance(node, ast.Expr):
                    self.assertIsInstance(node.value, ast.Constant, (path, node.lineno))

    def test_sizes(self):
        for path in self.trees:
            rows = rows_of(path)
            self.assertLess(len(rows), 400, path)
            for row in rows:
                self.assertLessEqual(len(row), 120, (path, row))
        for path, node in self.nodes(ast.FunctionDef):
            self.assertLessEqual(node.end_lineno - node.lineno + 1, 40, (path, node.name))

    def test_signs(self):
        for path in self.trees:
            for row in rows_of(path):
                self.assertTrue(all(" " <= sign <= "~" for sign in row), (path, row))
        for path, node in self.nodes(ast.Constant):
            self.assertNotIn("%", str(node.value), (path, node.lineno))

    def test_everything_has_a_docstring(self):
        for path, node in self.nodes(ast.Module, ast.ClassDef, ast.FunctionDef):
            if getattr(node, "name", "") != "__init__":
                self.assertTrue(ast.get_docstring(node), (path, getattr(node, "name", "")))


if __name__ == "__main__":
    unittest.main()
