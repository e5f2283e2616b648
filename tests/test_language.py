"""The rules of LANGUAGE.md that a short test can see: files, sizes, characters, imports, names and signs."""

import ast
import builtins
import os
import re
import unittest

PACKAGE = os.path.join(os.path.dirname(os.path.dirname(os.path.abspath(__file__))), "rangepools")
BUILTINS = set("""len range enumerate zip min max sum abs sorted reversed int str bool bytes list tuple dict set isinstance
    ord repr any all divmod iter next property classmethod staticmethod NotImplemented ValueError""".split())
LIBRARY = {"math": {"gcd", "lcm", "isqrt"}, "itertools": {"product", "combinations", "permutations", "chain", "pairwise"}}
METHODS = set("""append count endswith extend find get index insert isalnum isalpha isdigit islower items join keys partition pop
    replace setdefault split startswith strip update values zfill isascii removeprefix removesuffix""".split())
UNUSED = set("""register mro elements open input law version_info with_traceback add_note compile copyright dir eval exec exit
    globals help id license locals os quit vars hash map filter round format object slice type""".split())
BARRED = ["typing", "enum", "namedtuple", "dataclass", "overload", "contextmanager", "type", "register", "elements"]
# Once a class compares, these take what is plainly numbers or strings only. This package needs sorted alone, over sets.
ORDERED = {"min", "max"}


def parameters_of(node):
    return [argument.arg for argument in node.args.args]


def files():
    found = {}
    for name in sorted(os.listdir(PACKAGE)):
        if name.endswith(".py"):
            with open(os.path.join(PACKAGE, name), encoding="utf-8", newline="") as source:
                found[name] = source.read()
    return found


class Files(unittest.TestCase):
    def test_the_folder_holds_nothing_but_files_of_the_package(self):
        names = [name for name in os.listdir(PACKAGE) if name != "__pycache__"]
        self.assertEqual([name for name in names if not name.endswith(".py")], [])
        self.assertIn("__init__.py", names)
        self.assertEqual([name for name in names if name != name.lower() or name.startswith("test")], [])

    def test_sizes_and_characters(self):
        for name, text in files().items():
            with self.subTest(name):
                lines = text.split("\n")
                self.assertLessEqual(len(lines) - 1, 399)
                self.assertLessEqual(max(len(line) for line in lines), 120)
                self.assertEqual([one for one in text if not (" " <= one <= "~" or one == "\n")], [])
                self.assertEqual([word for word in BARRED if re.search(rf"\b{word}\b", text)], [])
                for node in ast.walk(ast.parse(text)):
                    if isinstance(node, ast.FunctionDef):
                        self.assertLessEqual(node.end_lineno - node.lineno + 1, 40, node.name)


class Code(unittest.TestCase):
    def setUp(self):
        self.trees = {name: ast.parse(text) for name, text in files().items()}

    def nodes(self, *kinds):
        return [(name, node) for name, tree in self.trees.items() for node in ast.walk(tree) if isinstance(node, kinds)]

    def test_imports(self):
        self.assertEqual(self.nodes(ast.Import), [])
        for name, node in self.nodes(ast.ImportFrom):
            with self.subTest(name, module=node.module):
                self.assertEqual(node.level, 0)
                self.assertTrue(all(alias.asname is None and alias.name != "*" for alias in node.names))
                if node.module in LIBRARY:
                    self.assertLessEqual({alias.name for alias in node.names}, LIBRARY[node.module])
                    continue
                self.assertTrue(node.module.startswith("rangepools."))
                home = self.trees[node.module.split(".")[1] + ".py"]
                self.assertLessEqual({alias.name for alias in node.names},
                                     {one.name for one in home.body if isinstance(one, (ast.FunctionDef, ast.ClassDef))})

    def test_imports_go_one_way(self):
        needs = {name: set() for name in self.trees}
        for name, node in self.nodes(ast.ImportFrom):
            if node.module.startswith("rangepools."):
                needs[name].add(node.module.split(".")[1] + ".py")
        while needs:
            free = [name for name in needs if not needs[name] & set(needs)]
            self.assertTrue(free, needs)
            for name in free:
                del needs[name]

    def test_only_allowed_builtins_and_none_renamed(self):
        builtin = set(dir(builtins))
        for name, node in self.nodes(ast.Name):
            if node.id in builtin:
                self.assertIn(node.id, BUILTINS - ORDERED, f"{name}:{node.lineno}")
                self.assertIsInstance(node.ctx, ast.Load)
        for name, node in self.nodes(ast.arg):
            self.assertNotIn(node.arg, builtin, f"{name}:{node.lineno}")

    def test_what_is_passed_to_builtins(self):
        for name, node in self.nodes(ast.Call):
            called = node.func.id if isinstance(node.func, ast.Name) else None
            if called == "sorted":
                self.assertEqual(ast.unparse(node)[:11], "sorted(set(", f"{name}:{node.lineno}")
            # Where a class has an __eq__, these take a list.
            if called in ("any", "all"):
                self.assertIsInstance(node.args[0], ast.ListComp, f"{name}:{node.lineno}")
        for name, node in self.nodes(ast.GeneratorExp, ast.Yield, ast.YieldFrom, ast.Set, ast.SetComp, ast.Lambda):
            self.fail(f"{name}:{node.lineno}")

    def test_methods_of_builtin_values_and_own_ones_alone_are_called(self):
        own = {node.name for _, node in self.nodes(ast.FunctionDef)}
        for name, node in self.nodes(ast.Call):
            if isinstance(node.func, ast.Attribute):
                self.assertIn(node.func.attr, own | METHODS, f"{name}:{node.lineno}")

    def test_objects_for_with_only_assign_when_they_end(self):
        for name, node in self.nodes(ast.FunctionDef):
            if node.name == "__exit__":
                self.assertEqual(parameters_of(node), ["self", "kind", "value", "trace"])
                for row in node.body[1:]:
                    self.assertRegex(ast.unparse(row), r"^\w+(\.\w+)? = self\.\w+$", name)

    def test_names_that_are_not_used(self):
        for name, node in self.nodes(ast.Name, ast.FunctionDef, ast.ClassDef, ast.arg, ast.keyword, ast.Attribute):
            word = getattr(node, "id", None) or getattr(node, "name", None) or getattr(node, "arg", None) or getattr(node, "attr", None)
            self.assertNotIn(word, UNUSED, name)
        methods = [node for _, tree in self.nodes(ast.ClassDef) for node in tree.body if isinstance(node, ast.FunctionDef)]
        properties = {node.name for node in methods if "property" in [ast.unparse(one) for one in node.decorator_list]}
        self.assertEqual(properties & {node.name for node in methods if not node.decorator_list}, set())

    def test_no_statement_or_sign_that_is_left_out(self):
        for name, node in self.nodes(ast.Global, ast.AsyncFunctionDef, ast.Await, ast.Div):
            self.fail(f"{name}: {node}")
        for name, node in self.nodes(ast.Delete):
            self.assertTrue(all(isinstance(target, ast.Subscript) for target in node.targets), name)
        for name, node in self.nodes(ast.Constant):
            self.assertNotIsInstance(node.value, (float, complex), name)
            if isinstance(node.value, str):
                self.assertNotIn("%", node.value)
        for name, node in self.nodes(ast.Attribute):
            self.assertFalse(node.attr.startswith("__") and node.attr != "__init__", f"{name}:{node.lineno}")
            self.assertNotIn(node.attr, ("sort", "format", "args"))

    def test_decorators(self):
        for name, node in self.nodes(ast.FunctionDef, ast.ClassDef):
            for one in node.decorator_list:
                self.assertIn(ast.unparse(one), ("property", "classmethod", "staticmethod"), name)

    def test_module_level_holds_definitions_only(self):
        allowed = (ast.ImportFrom, ast.FunctionDef, ast.ClassDef, ast.Assign, ast.Expr)
        for name, tree in self.trees.items():
            for node in tree.body:
                self.assertIsInstance(node, allowed, name)
                if isinstance(node, ast.Expr):
                    self.assertIs(node, tree.body[0])

    def test_no_variable_has_the_name_of_a_class_or_an_import_of_its_file(self):
        for name, tree in self.trees.items():
            taken = {alias.name for node in ast.walk(tree) if isinstance(node, ast.ImportFrom) for alias in node.names}
            taken |= {node.name for node in tree.body if isinstance(node, (ast.ClassDef, ast.FunctionDef))}
            for node in ast.walk(tree):
                if isinstance(node, ast.Name) and isinstance(node.ctx, ast.Store):
                    self.assertNotIn(node.id, taken, f"{name}:{node.lineno}")
                if isinstance(node, ast.arg):
                    self.assertNotIn(node.arg, taken, f"{name}:{node.lineno}")


if __name__ == "__main__":
    unittest.main()
