"""The rules of the language that can be read off the files."""

import ast
import builtins
import pathlib
import unittest

PACKAGE = pathlib.Path(__file__).resolve().parent.parent / "lookuploops"
BARRED = ("%", "\t", "_wall", "_WallAttr")


class LanguageTest(unittest.TestCase):
    def setUp(self):
        self.files = [path for path in sorted(PACKAGE.rglob("*")) if "__pycache__" not in path.parts]
        self.assertIn(PACKAGE / "__init__.py", self.files)

    def trees(self):
        return [(path.name, ast.parse(path.read_text())) for path in self.files]

    def test_only_python_files(self):
        self.assertEqual([path.name for path in self.files if path.suffix != ".py"], [])

    def test_sizes_and_characters(self):
        for path in self.files:
            text = path.read_text(encoding="utf-8")
            lines = text.split("\n")
            with self.subTest(path.name):
                self.assertLess(len(lines), 400)
                self.assertLessEqual(max(len(line) for line in lines), 120)
                self.assertTrue(text.isascii())
                self.assertEqual([word for word in BARRED if word in text], [])

    def test_functions_are_small(self):
        for name, tree in self.trees():
            for node in ast.walk(tree):
                if isinstance(node, (ast.FunctionDef, ast.Lambda)):
                    self.assertLessEqual(node.end_lineno - node.lineno, 39, name)

    def test_imports_are_of_the_package(self):
        for name, tree in self.trees():
            for node in ast.walk(tree):
                self.assertNotIsInstance(node, (ast.Import, ast.Global, ast.AsyncFunctionDef), name)
                if isinstance(node, ast.ImportFrom):
                    self.assertTrue(node.module.startswith("lookuploops."), name)

    def test_no_floats_and_no_division(self):
        for name, tree in self.trees():
            for node in ast.walk(tree):
                self.assertNotIsInstance(node, ast.Div, name)
                self.assertNotIsInstance(getattr(node, "value", None), float, name)

    def test_names_of_builtins_are_not_used(self):
        for name, tree in self.trees():
            for node in ast.walk(tree):
                if isinstance(node, ast.arg):
                    self.assertFalse(hasattr(builtins, node.arg), (name, node.arg))
                elif isinstance(node, ast.Name) and isinstance(node.ctx, ast.Store):
                    self.assertFalse(hasattr(builtins, node.id), (name, node.id))

    def test_methods_and_attributes_have_different_names(self):
        methods, attributes = set(), set()
        for _, tree in self.trees():
            for node in ast.walk(tree):
                if isinstance(node, ast.ClassDef):
                    methods |= {part.name for part in node.body if isinstance(part, ast.FunctionDef)}
                elif isinstance(node, ast.Attribute) and isinstance(node.ctx, ast.Store):
                    attributes.add(node.attr)
        self.assertEqual(methods & attributes, set())
        self.assertEqual(attributes & {"items", "keys", "values", "pop", "update", "sort", "args", "format"}, set())
        self.assertNotIn("keys", methods)

    def test_what_iterates_is_called_where_it_is_iterated(self):
        for name, tree in self.trees():
            for node in ast.walk(tree):
                if isinstance(node, ast.Call) and isinstance(node.func, ast.Name) and node.func.id == "reversed":
                    self.assertIn(getattr(getattr(node.args[0], "func", None), "id", None), ("list", "range"), name)
                self.assertNotIsInstance(node, (ast.Lambda, ast.Yield, ast.YieldFrom, ast.Set, ast.SetComp), name)
                if isinstance(node, ast.ExceptHandler):
                    self.assertIsNotNone(node.type, name)

    def test_modules_hold_plain_values_alone(self):
        for name, tree in self.trees():
            for node in tree.body:
                if not isinstance(node, (ast.FunctionDef, ast.ClassDef, ast.ImportFrom, ast.Expr)):
                    self.assertIsInstance(node, ast.Assign, name)
                    self.assertEqual(len(node.targets), 1, name)
                    self.assertNotIsInstance(node.value, ast.Call, name)


if __name__ == "__main__":
    unittest.main()
