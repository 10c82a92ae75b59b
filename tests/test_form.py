"""The form of the package's files, as far as a short look at them can tell."""

import ast
import builtins
import pathlib
import unittest

PACKAGE = pathlib.Path(__file__).resolve().parent.parent / "restalike"

# The functions and classes that each file itself defines for its users.
INTERFACE = {
    "errors.py": (
        "RestError", "BadNet", "BadWays", "BadTurn", "BadNumber", "BadPair", "Unlike", "NoTurn", "NoStep", "BadText",
        "BadLine"),
    "nets.py": ("is_net", "rest", "friends"),
    "turns.py": ("leads", "can_lead", "rings", "led_nets", "count_pair_rings", "count_led", "led_net"),
    "restturns.py": ("rest_turn", "is_restalike", "shows_rest_turn"),
    "counts.py": ("count_unlike", "count_unlike_ways", "has_restalike"),
    "onewaynets.py": (
        "is_one_way", "leads_ways", "can_lead_ways", "shows_way_turn", "way_rest", "led_ways", "count_led_ways",
        "way_turn"),
    "spans.py": ("distances", "span"),
    "stepnets.py": ("rest_steps", "has_steps", "shows_rest_steps"),
    "desks.py": ("Desk",),
    "nettexts.py": ("write_net", "read_net"),
}

# The methods and properties that each class itself defines.
METHODS = {"Desk": ("turn_over", "undo", "is_restalike", "net", "done")}

STATEMENTS = (
    ast.FunctionDef, ast.ClassDef, ast.ImportFrom, ast.Assign, ast.AugAssign, ast.Expr, ast.If, ast.For, ast.While,
    ast.Return, ast.Raise, ast.Try, ast.Pass, ast.Break, ast.Continue, ast.Delete)

# What a file may import from outside of the package.
LIBRARY = {"math": ("gcd", "factorial")}

BUILTINS = (
    "len", "range", "enumerate", "zip", "min", "max", "sum", "abs", "sorted", "reversed", "int", "str", "bool",
    "list", "tuple", "dict", "set", "isinstance", "any", "all", "property", "ValueError", "KeyError")


def files():
    return sorted(PACKAGE.glob("*.py"))


def trees():
    return [(file.name, ast.parse(file.read_text(encoding="utf-8"))) for file in files()]


class FormTest(unittest.TestCase):

    def test_only_python_files(self):
        names = [file.name for file in PACKAGE.iterdir() if file.name != "__pycache__"]
        self.assertIn("__init__.py", names)
        for name in names:
            self.assertTrue(name.endswith(".py") and name == name.lower(), name)

    def test_characters_and_sizes(self):
        for file in files():
            text = file.read_text(encoding="utf-8")
            self.assertTrue(all(sign == "\n" or " " <= sign <= "~" for sign in text), file.name)
            lines = text.splitlines()
            self.assertLessEqual(len(lines), 399, file.name)
            self.assertLessEqual(max(map(len, lines)), 120, file.name)

    def test_statements(self):
        for name, tree in trees():
            for node in ast.walk(tree):
                if isinstance(node, ast.stmt):
                    self.assertIsInstance(node, STATEMENTS, (name, node.lineno))
                if isinstance(node, ast.FunctionDef):
                    self.assertLessEqual(node.end_lineno - node.lineno + 1, 40, (name, node.name))
                    for decorator in node.decorator_list:
                        self.assertEqual(ast.unparse(decorator), "property", (name, node.name))

    def test_imports(self):
        modules = ["restalike." + file.stem for file in files()]
        for name, tree in trees():
            for node in ast.walk(tree):
                if isinstance(node, ast.ImportFrom):
                    self.assertEqual(node.level, 0, (name, node.lineno))
                    self.assertIn(node.module, [*modules, *LIBRARY], (name, node.lineno))
                    for word in node.names:
                        self.assertIsNone(word.asname, (name, node.lineno))
                        if node.module in LIBRARY:
                            self.assertIn(word.name, LIBRARY[node.module], (name, node.lineno))
                        else:
                            self.assertIn(word.name, self.defined_in(node.module), (name, node.lineno))

    def defined_in(self, module):
        """The names that a module of the package itself binds, imported ones left out."""
        body = dict(trees())[module.split(".")[1] + ".py"].body
        names = [node.name for node in body if isinstance(node, (ast.FunctionDef, ast.ClassDef))]
        return names + [node.targets[0].id for node in body if isinstance(node, ast.Assign)]

    def test_no_name_of_an_import_is_bound_again(self):
        for name, tree in trees():
            imported = [word.name for node in tree.body if isinstance(node, ast.ImportFrom) for word in node.names]
            bound = [node.id for node in ast.walk(tree) if isinstance(node, ast.Name) and
                     not isinstance(node.ctx, ast.Load)]
            bound += [node.arg for node in ast.walk(tree) if isinstance(node, ast.arg)]
            bound += [node.name for node in ast.walk(tree) if isinstance(node, (ast.FunctionDef, ast.ClassDef))]
            self.assertEqual([word for word in imported if word in bound], [], name)
            self.assertEqual(len(set(imported)), len(imported), name)

    def test_builtins(self):
        for name, tree in trees():
            for node in ast.walk(tree):
                if isinstance(node, ast.Name) and node.id in dir(builtins):
                    self.assertIn(node.id, BUILTINS, (name, node.lineno))
                    self.assertIsInstance(node.ctx, ast.Load, (name, node.lineno))

    def test_interface_is_defined_in_its_file(self):
        found = dict(trees())
        for name, wanted in INTERFACE.items():
            defined = [node.name for node in found[name].body if isinstance(node, (ast.FunctionDef, ast.ClassDef))]
            for word in wanted:
                self.assertIn(word, defined, name)

    def test_methods_are_defined_in_their_class(self):
        classes = {node.name: node for _, tree in trees() for node in tree.body if isinstance(node, ast.ClassDef)}
        for name, wanted in METHODS.items():
            defined = [node.name for node in classes[name].body if isinstance(node, ast.FunctionDef)]
            for word in wanted:
                self.assertIn(word, defined, name)
            self.assertEqual(len(set(defined)), len(defined), name)

    def test_strings(self):
        for name, tree in trees():
            for node in ast.walk(tree):
                if isinstance(node, ast.Constant) and isinstance(node.value, str):
                    self.assertNotIn("%", node.value, (name, node.lineno))
                    self.assertNotIn("__", node.value, (name, node.lineno))

    def test_plain_expressions(self):
        for name, tree in trees():
            for node in ast.walk(tree):
                self.assertNotIsInstance(node, (ast.GeneratorExp, ast.Set, ast.SetComp, ast.Lambda, ast.NamedExpr))
                if isinstance(node, ast.BinOp):
                    self.assertNotIsInstance(node.op, (ast.Div, ast.Pow, ast.MatMult), (name, node.lineno))
                if isinstance(node, ast.Constant):
                    self.assertNotIsInstance(node.value, (float, complex, bytes), (name, node.lineno))


if __name__ == "__main__":
    unittest.main()
