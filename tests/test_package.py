"""Point [1]: nothing here uses a clock, chance or files."""

import ast
import unittest
from pathlib import Path

PACKAGE = Path(__file__).resolve().parent.parent / "sidechain"
# Python's own names through which a file, a clock or a random source could be reached.
REACHING = ("open", "input", "print", "exec", "eval", "compile", "getattr", "globals", "vars", "hash", "id")


class Package(unittest.TestCase):
    def trees(self):
        files = sorted(PACKAGE.glob("*.py"))
        self.assertIn(PACKAGE / "board.py", files)
        for file in files:
            yield file.name, ast.parse(file.read_text(encoding="utf-8"))

    def test_only_modules_of_its_own_are_drawn_from(self):
        for name, tree in self.trees():
            for node in ast.walk(tree):
                self.assertNotIsInstance(node, ast.Import, name)
                if isinstance(node, ast.ImportFrom):
                    self.assertEqual((node.level, node.module.split(".")[0]), (0, "sidechain"), name)

    def test_no_name_that_reaches_outside_is_used(self):
        for name, tree in self.trees():
            for node in ast.walk(tree):
                if isinstance(node, ast.Name):
                    self.assertNotIn(node.id, REACHING, name)
                    self.assertFalse(node.id.startswith("__"), name)


if __name__ == "__main__":
    unittest.main()
