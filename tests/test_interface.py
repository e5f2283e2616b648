"""The interface of DOC.md: its names, arguments and examples."""

import ast
import inspect
import os
import unittest

from rangepools import errors, profiles, ratios

PACKAGE = os.path.join(os.path.dirname(os.path.dirname(os.path.abspath(__file__))), "rangepools")

# For each file: its functions, and its classes with their methods, each with the parameters that callers use.
INTERFACE = {
    "ratios": {
        "Ratio": {"__init__": ["top", "bottom"], "read": ["text"], "top": [], "bottom": [], "__add__": ["other"],
                  "__sub__": ["other"], "__mul__": ["other"], "__neg__": [], "__eq__": ["other"], "__lt__": ["other"],
                  "__le__": ["other"], "over": ["number"], "text": []},
        "as_ratio": ["given"], "lesser": ["one", "other"], "greater": ["one", "other"], "total": ["numbers"]},
    "profiles": {
        "Position": {"__init__": ["low", "high", "size"], "low": [], "high": [], "size": [], "__eq__": ["other"],
                     "holds": ["root"], "text": [], "read": ["text"]},
        "Profile": {"__init__": ["positions"], "__eq__": ["other"], "__add__": ["other"], "ends": [],
                    "size_at": ["root"], "stretches": [], "positions": [], "without": ["position"], "holds": ["root"]}},
}
PROPERTIES = [(ratios.Ratio, "top"), (ratios.Ratio, "bottom"), (profiles.Position, "low"), (profiles.Position, "high"),
              (profiles.Position, "size")]

RATIOS = """
>>> half = Ratio(-3, -6)
>>> half.top, half.bottom, (half - 2).text(), half.over(Ratio(3, 4)).text(), half <= Ratio(1, 2), Ratio(6, 3) == 2
(1, 2, '-3/2', '2/3', True, True)
>>> lesser(half, 1) == half, greater(-half, -1).text(), total([half, 1, half]).text(), Ratio.read("-7/3").bottom
(True, '-1/2', '2', 3)
>>> as_ratio("1/2")
raises BadNumber('1/2')
"""
PROFILES = """
>>> one, other = Position(1, 3, 6), Position.read("2 4 1/2")
>>> [number.text() for number in one.holds(2)], [number.text() for number in other.holds(1)], other.text()
(['1', '6'], ['1/8', '0'], '2 4 1/2')
>>> profile = Profile([one, other])
>>> [[number.text() for number in stretch] for stretch in profile.stretches()], profile.size_at(3).text()
([['1', '2', '6'], ['2', '3', '13/2'], ['3', '4', '1/2']], '1/2')
>>> profile.without(one) == Profile([other]), profile == Profile([Position(1, 2, 6)]) + Profile([Position(2, 3, 6), other])
(True, True)
>>> profile.without(Position(1, 4, 1))
raises Lacking()
"""


def defined(body):
    """The functions and classes that stand in a file or a class, by name."""
    return {node.name: node for node in body if isinstance(node, (ast.FunctionDef, ast.ClassDef))}


def parameters(node):
    return [argument.arg for argument in node.args.args if argument.arg not in ("self", "cls")]


def shown(error):
    """An error as the examples show it."""
    attributes = [repr(value) for value in vars(error).values()]
    return f"raises {type(error).__name__}({', '.join(attributes)})"


class Names(unittest.TestCase):
    def test_functions_classes_and_methods_stand_where_the_interface_lists_them(self):
        for file, listed in INTERFACE.items():
            with open(os.path.join(PACKAGE, f"{file}.py"), encoding="utf-8") as source:
                found = defined(ast.parse(source.read()).body)
            for name, wanted in listed.items():
                with self.subTest(file=file, name=name):
                    if isinstance(wanted, list):
                        self.assertEqual(parameters(found[name]), wanted)
                        continue
                    methods = defined(found[name].body)
                    self.assertEqual({method: parameters(methods[method]) for method in wanted}, wanted)

    def test_the_bottom_is_the_only_argument_with_a_default(self):
        signature = inspect.signature(ratios.Ratio)
        self.assertEqual(str(signature), "(top, bottom=1)")
        for function in (profiles.Position, profiles.Profile, ratios.as_ratio, ratios.lesser, ratios.greater, ratios.total,
                         ratios.Ratio.over, ratios.Ratio.read, profiles.Position.read, profiles.Position.holds,
                         profiles.Profile.size_at, profiles.Profile.holds, profiles.Profile.without):
            self.assertTrue(all(one.default is one.empty for one in inspect.signature(function).parameters.values()))

    def test_properties_and_class_methods(self):
        for kind, name in PROPERTIES:
            self.assertIsInstance(vars(kind)[name], property)
        for kind in (ratios.Ratio, profiles.Position):
            self.assertIsInstance(vars(kind)["read"], classmethod)


class Examples(unittest.TestCase):
    def follow(self, text):
        """Each value that is shown is that of the line ahead of it."""
        names = {**vars(errors), **vars(ratios), **vars(profiles)}
        found = None
        for line in text.strip().split("\n"):
            if not line.startswith(">>> "):
                self.assertEqual(found, line)
                continue
            code = line[4:]
            try:
                ast.parse(code, mode="eval")
            except SyntaxError:
                exec(code, names)
                continue
            try:
                found = repr(eval(code, names))
            except errors.PoolError as error:
                found = shown(error)

    def test_ratios(self):
        self.follow(RATIOS)

    def test_profiles(self):
        self.follow(PROFILES)


if __name__ == "__main__":
    unittest.main()
