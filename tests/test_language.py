"""The rules of the language that can be read off the files."""

import ast
import pathlib
import unittest

PACKAGE = pathlib.Path(__file__).resolve().parent.parent / "lookuploops"
BARRED = ("%", "\t", "_wall", "_WallAttr")


class LanguageTest(unittest.TestCase):
    def setUp(self):
        self.files = [path for path in sorted(PACKAGE.rglob("*")) if "__pycache__" not in path.parts]
        self.assertIn(PACKAGE / "__init__.py", self.files)

    def trees(self):
        return [(path.name, ast.parse(path.read_text())) for path in self.files]

    def test_only_python_files(self):
        self.assertEqual([path.name for path in self.files if path.suffix != ".py"], [])

    def test_sizes_and_characters(self):
        for path in self.files:
            text = path.read_text(encoding="utf-8")
            lines = text.split("\n")
            with self.subTest(path.name):
                self.assertLess(len(lines), 400)
                self.assertLessEqual(max(len(line) for line in lines), 120)
                self.assertTrue(text.isascii())
                self.assertEqual([word for word in BARRED if word in text], [])

    def test_functions_are_small(self):
        for name, tree in self.trees():
            for node in ast.walk(tree):
                if isinstance(node, (ast.FunctionDef, ast.Lambda)):
                    self.assertLessEqual(node.end_lineno - node.lineno, 39, name)

    def test_imports_are_of_the_package(self):
        for name, tree in self.trees():
            for node in ast.walk(tree):
                self.assertNotIsInstance(node, (ast.Import, ast.Global, ast.AsyncFunctionDef), name)
                if isinstance(node, ast.ImportFrom):
                    self.assertTrue(node.module.startswith("lookuploops."), name)

    def test_no_floats_and_no_division(self):
        for name, tree in self.trees():
            for node in ast.walk(tree):
                self.assertNotIsInstance(node, ast.Div, name)
                self.assertNotIsInstance(getattr(node, "value", None), float, name)


if __name__ == "__main__":
    unittest.main()
