"""The form of the package's files, as far as a short look at them can tell."""

import ast
import builtins
import pathlib
import unittest

PACKAGE = pathlib.Path(__file__).resolve().parent.parent / "restalike"

# The functions and classes that each file itself defines for its users.
INTERFACE = {
    "errors.py": (
        "RestError", "BadNet", "BadWays", "BadTurn", "BadNumber", "BadPair", "Unlike", "NoTurn", "NoStep", "BadText",
        "BadLine"),
    "nets.py": ("is_net", "rest", "friends"),
    "turns.py": ("leads", "can_lead", "rings", "led_nets", "count_pair_rings", "count_led", "led_net"),
}

STATEMENTS = (
    ast.FunctionDef, ast.ClassDef, ast.ImportFrom, ast.Assign, ast.AugAssign, ast.Expr, ast.If, ast.For, ast.While,
    ast.Return, ast.Raise, ast.Try, ast.Pass, ast.Break, ast.Continue, ast.Delete)

BUILTINS = (
    "len", "range", "enumerate", "zip", "min", "max", "sum", "abs", "sorted", "reversed", "int", "str", "bool",
    "list", "tuple", "dict", "set", "isinstance", "any", "all", "ValueError", "KeyError")


def files():
    return sorted(PACKAGE.glob("*.py"))


def trees():
    return [(file.name, ast.parse(file.read_text(encoding="utf-8"))) for file in files()]


class FormTest(unittest.TestCase):

    def test_only_python_files(self):
        names = [file.name for file in PACKAGE.iterdir() if file.name != "__pycache__"]
        self.assertIn("__init__.py", names)
        for name in names:
            self.assertTrue(name.endswith(".py") and name == name.lower(), name)

    def test_characters_and_sizes(self):
        for file in files():
            text = file.read_text(encoding="utf-8")
            self.assertTrue(all(sign == "\n" or " " <= sign <= "~" for sign in text), file.name)
            lines = text.splitlines()
            self.assertLessEqual(len(lines), 399, file.name)
            self.assertLessEqual(max(map(len, lines)), 120, file.name)

    def test_statements(self):
        for name, tree in trees():
            for node in ast.walk(tree):
                if isinstance(node, ast.stmt):
                    self.assertIsInstance(node, STATEMENTS, (name, node.lineno))
                if isinstance(node, ast.FunctionDef):
                    self.assertLessEqual(node.end_lineno - node.lineno + 1, 40, (name, node.name))
                    self.assertEqual(node.decorator_list, [], (name, node.name))

    def test_imports_come_from_the_package_alone(self):
        for name, tree in trees():
            for node in ast.walk(tree):
                if isinstance(node, ast.ImportFrom):
                    self.assertEqual(node.level, 0, (name, node.lineno))
                    self.assertEqual(node.module.split(".")[0], "restalike", (name, node.lineno))

    def test_builtins(self):
        for name, tree in trees():
            for node in ast.walk(tree):
                if isinstance(node, ast.Name) and node.id in dir(builtins):
                    self.assertIn(node.id, BUILTINS, (name, node.lineno))
                    self.assertIsInstance(node.ctx, ast.Load, (name, node.lineno))

    def test_interface_is_defined_in_its_file(self):
        found = dict(trees())
        for name, wanted in INTERFACE.items():
            defined = [node.name for node in found[name].body if isinstance(node, (ast.FunctionDef, ast.ClassDef))]
            for word in wanted:
                self.assertIn(word, defined, name)


if __name__ == "__main__":
    unittest.main()
