"""The rules of LANGUAGE.md that a short test can see: files, sizes, characters, imports, names and signs."""

import ast
import builtins
import os
import re
import unittest

PACKAGE = os.path.join(os.path.dirname(os.path.dirname(os.path.abspath(__file__))), "rangepools")
BUILTINS = set("""len range enumerate zip min max sum abs sorted reversed int str bool bytes list tuple dict set isinstance
    ord repr any all divmod iter next property classmethod staticmethod NotImplemented ValueError""".split())
LIBRARY = {"math": {"gcd", "lcm", "isqrt"}, "itertools": {"product", "combinations", "permutations", "chain", "pairwise"}}
BARRED = ["typing", "enum", "namedtuple", "dataclass", "overload", "contextmanager", "type", "register", "elements"]
# Once a class compares, these take what is plainly numbers or strings only; this package needs none of them.
ORDERED = {"sorted", "min", "max"}


def files():
    found = {}
    for name in sorted(os.listdir(PACKAGE)):
        if name.endswith(".py"):
            with open(os.path.join(PACKAGE, name), encoding="utf-8", newline="") as source:
                found[name] = source.read()
    return found


class Files(unittest.TestCase):
    def test_the_folder_holds_nothing_but_files_of_the_package(self):
        names = [name for name in os.listdir(PACKAGE) if name != "__pycache__"]
        self.assertEqual([name for name in names if not name.endswith(".py")], [])
        self.assertIn("__init__.py", names)
        self.assertEqual([name for name in names if name != name.lower() or name.startswith("test")], [])

    def test_sizes_and_characters(self):
        for name, text in files().items():
            with self.subTest(name):
                lines = text.split("\n")
                self.assertLessEqual(len(lines) - 1, 399)
                self.assertLessEqual(max(len(line) for line in lines), 120)
                self.assertEqual([one for one in text if not (" " <= one <= "~" or one == "\n")], [])
                self.assertEqual([word for word in BARRED if re.search(rf"\b{word}\b", text)], [])
                for node in ast.walk(ast.parse(text)):
                    if isinstance(node, ast.FunctionDef):
                        self.assertLessEqual(node.end_lineno - node.lineno + 1, 40, node.name)


class Code(unittest.TestCase):
    def setUp(self):
        self.trees = {name: ast.parse(text) for name, text in files().items()}

    def nodes(self, *kinds):
        return [(name, node) for name, tree in self.trees.items() for node in ast.walk(tree) if isinstance(node, kinds)]

    def test_imports(self):
        self.assertEqual(self.nodes(ast.Import), [])
        for name, node in self.nodes(ast.ImportFrom):
            with self.subTest(name, module=node.module):
                self.assertEqual(node.level, 0)
                self.assertTrue(all(alias.asname is None and alias.name != "*" for alias in node.names))
                if node.module in LIBRARY:
                    self.assertLessEqual({alias.name for alias in node.names}, LIBRARY[node.module])
                    continue
                self.assertTrue(node.module.startswith("rangepools."))
                home = self.trees[node.module.split(".")[1] + ".py"]
                self.assertLessEqual({alias.name for alias in node.names},
                                     {one.name for one in home.body if isinstance(one, (ast.FunctionDef, ast.ClassDef))})

    def test_imports_go_one_way(self):
        needs = {name: set() for name in self.trees}
        for name, node in self.nodes(ast.ImportFrom):
            if node.module.startswith("rangepools."):
                needs[name].add(node.module.split(".")[1] + ".py")
        while needs:
            free = [name for name in needs if not needs[name] & set(needs)]
            self.assertTrue(free, needs)
            for name in free:
                del needs[name]

    def test_only_allowed_builtins_and_none_renamed(self):
        builtin = set(dir(builtins))
        for name, node in self.nodes(ast.Name):
            if node.id in builtin:
                self.assertIn(node.id, BUILTINS - ORDERED, f"{name}:{node.lineno}")
                self.assertIsInstance(node.ctx, ast.Load)
        for name, node in self.nodes(ast.arg):
            self.assertNotIn(node.arg, builtin, f"{name}:{node.lineno}")

    def test_no_statement_or_sign_that_is_left_out(self):
        for name, node in self.nodes(ast.Global, ast.AsyncFunctionDef, ast.Await, ast.Div, ast.Delete):
            self.fail(f"{name}: {node}")
        for name, node in self.nodes(ast.Constant):
            self.assertNotIsInstance(node.value, (float, complex), name)
            if isinstance(node.value, str):
                self.assertNotIn("%", node.value)
        for name, node in self.nodes(ast.Attribute):
            self.assertFalse(node.attr.startswith("__") and node.attr != "__init__", f"{name}:{node.lineno}")
            self.assertNotIn(node.attr, ("sort", "format", "args"))

    def test_decorators(self):
        for name, node in self.nodes(ast.FunctionDef, ast.ClassDef):
            for one in node.decorator_list:
                self.assertIn(ast.unparse(one), ("property", "classmethod", "staticmethod"), name)

    def test_module_level_holds_definitions_only(self):
        allowed = (ast.ImportFrom, ast.FunctionDef, ast.ClassDef, ast.Assign, ast.Expr)
        for name, tree in self.trees.items():
            for node in tree.body:
                self.assertIsInstance(node, allowed, name)
                if isinstance(node, ast.Expr):
                    self.assertIs(node, tree.body[0])

    def test_no_variable_has_the_name_of_a_class_or_an_import_of_its_file(self):
        for name, tree in self.trees.items():
            taken = {alias.name for node in ast.walk(tree) if isinstance(node, ast.ImportFrom) for alias in node.names}
            taken |= {node.name for node in tree.body if isinstance(node, (ast.ClassDef, ast.FunctionDef))}
            for node in ast.walk(tree):
                if isinstance(node, ast.Name) and isinstance(node.ctx, ast.Store):
                    self.assertNotIn(node.id, taken, f"{name}:{node.lineno}")
                if isinstance(node, ast.arg):
                    self.assertNotIn(node.arg, taken, f"{name}:{node.lineno}")


if __name__ == "__main__":
    unittest.main()
