"""The interface of DOC.md: its names, arguments and examples."""

import ast
import inspect
import os
import unittest

from rangepools import (compare, curves, deeds, errors, house, keepers, pools, prices, profiles, ratios, splits, webs,
                        worths)

PACKAGE = os.path.join(os.path.dirname(os.path.dirname(os.path.abspath(__file__))), "rangepools")

# For each file: its functions, and its classes with their methods, each with the parameters that callers use.
INTERFACE = {
    "ratios": {
        "Ratio": {"__init__": ["top", "bottom"], "read": ["text"], "top": [], "bottom": [], "__add__": ["other"],
                  "__sub__": ["other"], "__mul__": ["other"], "__neg__": [], "__eq__": ["other"], "__lt__": ["other"],
                  "__le__": ["other"], "over": ["number"], "text": []},
        "as_ratio": ["given"], "lesser": ["one", "other"], "greater": ["one", "other"], "total": ["numbers"]},
    "profiles": {
        "Position": {"__init__": ["low", "high", "size"], "low": [], "high": [], "size": [], "__eq__": ["other"],
                     "holds": ["root"], "text": [], "read": ["text"]},
        "Profile": {"__init__": ["positions"], "__eq__": ["other"], "__add__": ["other"], "ends": [],
                    "size_at": ["root"], "stretches": [], "positions": [], "without": ["position"], "holds": ["root"]}},
    "pools": {
        "Pool": {"__init__": ["profile", "root", "fee"], "profile": [], "root": [], "fee": [], "__eq__": ["other"]},
        "trade": ["pool", "good", "amount"], "steps": ["pool", "good", "amount"], "most": ["pool", "good"],
        "needed": ["pool", "good", "wished"], "rate": ["pool", "good"], "to_root": ["pool", "root"],
        "alike": ["one", "other"], "parting": ["one", "other"]},
    "curves": {
        "Curve": {"__eq__": ["other"], "pieces": [], "end": [], "told": ["amount"], "needed": ["wished"],
                  "rate": ["amount"]},
        "curve_of": ["pool", "good"], "joined": ["one", "other"], "chained": ["curves"], "chain_of": ["pools", "goods"]},
    "compare": {
        "never_less": ["one", "other"], "less_at": ["one", "other"], "same_until": ["one", "other"],
        "ahead": ["one", "other"], "best_for": ["curves", "amount"], "above": ["curve", "number"], "gains": ["curve"]},
    "webs": {
        "Web": {"__init__": ["pools"], "__len__": [], "__eq__": ["other"], "names": [], "goods": [], "joins": ["name"],
                "trade": ["name", "good", "amount"], "rate": ["name", "good"]},
        "leads_to": ["web", "start", "route"], "routes": ["web", "start", "end"], "route_curve": ["web", "start", "route"],
        "send": ["web", "start", "route", "amount"], "best_route": ["web", "start", "end", "amount"],
        "is_best_route": ["web", "start", "end", "route"], "better_route": ["web", "start", "end", "route"]},
    "prices": {
        "are_fair": ["web", "prices"], "fair_prices": ["web"], "gaining_ring": ["web"], "is_ring": ["web", "ring"],
        "ring_gains": ["web", "ring"], "ring_curve": ["web", "ring"], "ring_amount": ["web", "ring"],
        "traded": ["web", "trades"], "has_gained": ["changes"], "value_of": ["changes", "prices"], "rings": ["web"],
        "ring_above": ["web", "number"]},
    "keepers": {
        "Keeper": {"__init__": ["root", "fee"], "lend": ["name", "low", "high", "size"], "grow": ["name", "size"],
                   "lessen": ["name", "size"], "trade": ["good", "amount"], "fees": ["name"], "collect": ["name"],
                   "close": ["name"], "holds": [], "pool": [], "names": [], "position": ["name"], "twin": []}},
    "splits": {
        "together_most": ["pools", "good"], "best_split": ["pools", "good", "amount"],
        "best_yield": ["pools", "good", "amount"], "common_root": ["pools", "good", "amount"],
        "yield_of": ["pools", "good", "split"], "is_best": ["pools", "good", "split"],
        "better_split": ["pools", "good", "split"], "union_curve": ["pools", "good"]},
    "worths": {
        "worth": ["profile", "root"], "kept_worth": ["profile", "root", "end"], "lag": ["profile", "root", "end"],
        "worth_pieces": ["profile"], "worth_never_less": ["one", "other"], "worth_less_at": ["one", "other"],
        "lag_at_most": ["profile", "root", "share", "low", "high"],
        "lag_above_at": ["profile", "root", "share", "low", "high"],
        "break_even": ["profile", "root", "a", "b", "low", "high"],
        "loss_at": ["profile", "root", "a", "b", "low", "high"]},
    "deeds": {
        "do_deed": ["keeper", "deed"], "after_deeds": ["keeper", "deeds"], "agree": ["one", "other"],
        "given_in_sum": ["given"], "change_places": ["keeper", "one", "other"],
        "change_in_sum": ["keeper", "one", "other"], "always_change": ["one", "other"],
        "against_change": ["one", "other"], "same_direction": ["one", "other"], "in_one": ["deeds"]},
    "house": {
        "House": {"__init__": [], "__len__": [], "add": ["pool", "good", "other", "root", "fee"],
                  "pay": ["person", "good", "amount"], "purse": ["person"],
                  "lend": ["person", "pool", "name", "low", "high", "size"], "grow": ["person", "pool", "name", "size"],
                  "lessen": ["person", "pool", "name", "size"], "collect": ["person", "pool", "name"],
                  "close": ["person", "pool", "name"], "owner": ["pool", "name"],
                  "trade": ["person", "pool", "good", "amount"], "send": ["person", "start", "route", "amount"],
                  "web": [], "fees": ["pool", "name"], "paid": [], "present": [], "undo": [], "redo": [], "trial": [],
                  "supposed": ["text", "person"], "text": []},
        "read_house": ["text"]},
}
FILES = {"ratios": ratios, "profiles": profiles, "pools": pools, "curves": curves, "compare": compare, "webs": webs,
         "prices": prices, "keepers": keepers, "splits": splits, "worths": worths, "deeds": deeds, "house": house}
PROPERTIES = [(ratios.Ratio, "top"), (ratios.Ratio, "bottom"), (profiles.Position, "low"), (profiles.Position, "high"),
              (profiles.Position, "size"), (pools.Pool, "profile"), (pools.Pool, "root"), (pools.Pool, "fee")]

RATIOS = """
>>> half = Ratio(-3, -6)
>>> half.top, half.bottom, (half - 2).text(), half.over(Ratio(3, 4)).text(), half <= Ratio(1, 2), Ratio(6, 3) == 2
(1, 2, '-3/2', '2/3', True, True)
>>> lesser(half, 1) == half, greater(-half, -1).text(), total([half, 1, half]).text(), Ratio.read("-7/3").bottom
(True, '-1/2', '2', 3)
>>> as_ratio("1/2")
raises BadNumber('1/2')
"""
PROFILES = """
>>> one, other = Position(1, 3, 6), Position.read("2 4 1/2")
>>> [number.text() for number in one.holds(2)], [number.text() for number in other.holds(1)], other.text()
(['1', '6'], ['1/8', '0'], '2 4 1/2')
>>> profile = Profile([one, other])
>>> [[number.text() for number in stretch] for stretch in profile.stretches()], profile.size_at(3).text()
([['1', '2', '6'], ['2', '3', '13/2'], ['3', '4', '1/2']], '1/2')
>>> profile.without(one) == Profile([other]), profile == Profile([Position(1, 2, 6)]) + Profile([Position(2, 3, 6), other])
(True, True)
>>> profile.without(Position(1, 4, 1))
raises Lacking()
"""
POOLS = """
>>> pool = Pool(Profile([Position(1, 3, 6), Position(4, 5, 2)]), 2, Ratio(1, 10))
>>> after, taken, left = trade(pool, "b", 10)
>>> after.root.text(), taken.text(), left.text(), rate(pool, "b").text(), rate(pool, "a").text()
('5', '11/10', '10/9', '9/40', '18/5')
>>> [[number.text() for number in step] for step in steps(pool, "b", 7)]
[['2', '3', '6', '20/3', '1'], ['4', '83/20', '2', '1/3', '3/166']]
>>> most(pool, "b").text(), needed(pool, "b", 1).text(), to_root(pool, 1)[1].text(), len(parting(pool, Pool(pool.profile, 2, 0))) < 3
('80/9', '20/3', '10/3', True)
>>> to_root(pool, 6)
raises NoWay(6)
"""
CURVES = """
>>> pool = Pool(Profile([Position(1, 3, 6)]), 2, Ratio(1, 4))
>>> curve = curve_of(pool, "b")
>>> [[number.text() for number in piece] for piece in curve.pieces()], curve.told(4).text(), curve.needed(1).text(), curve.rate(0).text()
([['0', '8', '3', '0', '16']], '3/5', '8', '3/16')
>>> there = chain_of([pool, pool], "ba")
>>> there.end().text(), there.told(8).text(), there == joined(curve, curve_of(pool, "a")), curve_of(Pool(pool.profile, 3, 0), "b").pieces()
('8', '12/5', True, [])
>>> curve.told(9)
raises BadAmount(9)
"""
COMPARE = """
>>> small, great = Pool(Profile([Position(1, 9, 2)]), 2, 0), Pool(Profile([Position(1, 9, 6)]), 3, 0)
>>> one, other = curve_of(small, "b"), curve_of(great, "b")
>>> ahead(one, other), never_less(one, other), one.told(less_at(one, other)) < other.told(less_at(one, other)), same_until(one, one) == one.end()
('depends', False, True, True)
>>> best_for([one, other], 2)[0], best_for([one, other], 12)[0], best_for([one], 100)
(0, 1, None)
>>> ring = chain_of([small, great], "ba")
>>> gains(ring), above(ring, 1) is None, Ratio(0) < ring.told(above(ring, Ratio(1, 10))), gains(curve_of(great, "b"))
(True, True, True, False)
"""
WEBS = """
>>> profile = Profile([Position(1, 4, 6)])
>>> web = Web({"one": ("oil", "salt", Pool(profile, 2, 0)), "two": ("salt", "tin", Pool(profile, 2, 0)), "six": ("tin", "oil", Pool(profile, 3, 0))})
>>> web.goods(), web.names(), routes(web, "oil", "tin"), leads_to(web, "salt", ["one", "six"])
(['oil', 'salt', 'tin'], ['one', 'six', 'two'], [['six'], ['one', 'two']], 'tin')
>>> web.rate("six", "oil").text(), [part.text() for part in web.trade("one", "oil", 1)[2:]], web.trade("one", "oil", 1)[0].joins("one")[2].root.text()
('1/9', ['3', '0'], '3/2')
>>> send(web, "oil", ["six"], 6)[1].text(), route_curve(web, "oil", ["one", "two"]).end().text(), best_route(web, "oil", "tin", 1)[0]
('1/2', '1', ['one', 'two'])
>>> is_best_route(web, "oil", "tin", ["one", "two"]), better_route(web, "oil", "tin", ["one", "two"])[0]
(False, ['six'])
>>> web.rate("two", "oil")
raises NoGood('oil')
"""
PRICES = """
>>> profile = Profile([Position(1, 4, 6)])
>>> web = Web({"one": ("oil", "salt", Pool(profile, 2, 0)), "two": ("salt", "tin", Pool(profile, 2, 0)), "six": ("tin", "oil", Pool(profile, 3, 0))})
>>> fair_prices(web), ring_gains(web, gaining_ring(web)), rings(web)[0], len(rings(web))
(None, True, [('one', 'oil'), ('two', 'salt'), ('six', 'tin')], 2)
>>> ring = [("one", "oil"), ("two", "salt"), ("six", "tin")]
>>> ring_amount(web, ring) < ring_curve(web, ring).told(ring_amount(web, ring)), ring_gains(web, [("six", "oil"), ("two", "tin"), ("one", "salt")])
(True, False)
>>> changes = traded(web, [("one", "oil", 1), ("two", "salt", 3)])[1]
>>> [changes[good].text() for good in changes], has_gained(changes), ring_above(web, 100)
(['-1', '0', '6'], False, None)
>>> still = Web({"one": ("oil", "salt", Pool(profile, 2, Ratio(1, 2)))})
>>> are_fair(still, {"oil": 4, "salt": 1}), are_fair(still, fair_prices(still)), are_fair(still, {"oil": 1, "salt": 1}), gaining_ring(still)
(True, True, False, None)
"""
KEEPERS = """
>>> keeper = Keeper(2, Ratio(1, 10))
>>> [number.text() for number in keeper.lend("ann", 1, 3, 6)], [number.text() for number in keeper.lend("bob", 2, 5, 3)]
(['1', '6'], ['9/10', '0'])
>>> [number.text() for number in keeper.trade("b", 20)], [number.text() for number in keeper.fees("ann")], [number.text() for number in keeper.fees("bob")]
(['19/10', '10/3'], ['0', '2/3'], ['0', '1'])
>>> [number.text() for number in keeper.holds()], keeper.pool().root.text(), [number.text() for number in keeper.close("bob")]
(['0', '68/3'], '5', ['0', '10'])
>>> keeper.collect("bob")
raises NoPosition('bob')
"""
SPLITS = """
>>> low, high = Pool(Profile([Position(1, 4, 6)]), 1, 0), Pool(Profile([Position(1, 4, 3)]), 2, 0)
>>> [part.text() for part in best_split([low, high], "b", 9)], best_yield([low, high], "b", 9).text(), common_root([low, high], "b", 9).text()
(['8', '1'], '51/14', '7/3')
>>> is_best([low, high], "b", [6, 3]), yield_of([low, high], "b", [6, 3]).text(), [part.text() for part in best_split([low, high], "b", 6)]
(False, '7/2', ['6', '0'])
>>> together_most([low, high], "a").text(), union_curve([low, high], "b").told(9).text()
('3/2', '51/14')
"""
WORTHS = """
>>> profile = Profile([Position(1, 4, 4)])
>>> worth(profile, 2).text(), kept_worth(profile, 2, 4).text(), worth(profile, 4).text(), lag(profile, 2, 4).text(), lag(profile, 2, 1).text()
('8', '20', '12', '8', '2')
>>> [[number.text() for number in piece[2:]] for piece in worth_pieces(profile)], worth_pieces(profile)[2][1]
([['3', '0', '0'], ['-1', '8', '-4'], ['0', '0', '12']], None)
>>> lag_at_most(profile, 2, Ratio(2, 5), 1, 4), lag_above_at(profile, 2, Ratio(1, 5), 2, 3), lag_at_most(profile, 2, Ratio(1, 5), 1, 2)
(True, None, False)
>>> worth_never_less(Profile([Position(1, 4, 4)]), Profile([Position(1, 2, 4)])), break_even(profile, 2, 0, 2, 1, 3), break_even(profile, 2, 0, 2, 1, 4)
(True, True, False)
"""
DEEDS = """
>>> keeper, given = after_deeds(Keeper(2, Ratio(1, 10)), [("lend", "ann", 1, 4, 6), ("trade", "b", 10), ("collect", "ann")])
>>> [[number.text() for number in pair] for pair in given], keeper.pool().root.text(), [number.text() for number in given_in_sum(given)]
([['-3/2', '-6'], ['9/7', '-10'], ['0', '1']], '7/2', ['-3/14', '-15'])
>>> change_places(keeper, ("trade", "a", 0), ("grow", "ann", 1)), change_places(keeper, ("trade", "a", 1), ("trade", "b", 1)), change_in_sum(keeper, ("trade", "a", 1), ("trade", "a", 2))
(True, False, True)
>>> always_change(("grow", "ann", 1), ("collect", "bob")), always_change(("trade", "a", 1), ("collect", "bob")), agree(keeper, keeper.twin())
(True, False, True)
>>> after, given = after_deeds(Keeper(2, Ratio(1, 10)), against_change(("trade", "a", 1), ("collect", "bob")))
>>> change_places(after, ("trade", "a", 1), ("collect", "bob")), in_one([("trade", "a", 1), ("trade", "a", Ratio(1, 2)), ("trade", "b", 3)]) == [("trade", "a", Ratio(3, 2)), ("trade", "b", 3)]
(False, True)
>>> do_deed(keeper, ("sell", "a"))
raises BadDeed(('sell', 'a'))
"""
HOUSE = r"""
>>> house = House()
>>> house.add("one", "oil", "salt", 2, Ratio(1, 10))
>>> house.pay("ann", "oil", 5)
>>> house.pay("ann", "salt", 10)
>>> [number.text() for number in house.lend("ann", "one", "low", 1, 4, 6)], [number.text() for number in house.purse("ann").values()]
(['3/2', '6'], ['7/2', '4'])
>>> house.pay("bob", "salt", 10)
>>> house.trade("bob", "one", "salt", 10)[1].text(), [number.text() for number in house.fees("one", "low")], list(house.purse("bob"))
('9/7', ['0', '1'], ['oil'])
>>> house.paid() == house.present(), len(house), house.owner("one", "low"), read_house(house.text()).text() == house.text()
(True, 6, 'ann', True)
>>> [number.text() for number in house.supposed("pay bob tin 3\ntrade bob one oil 1", "bob").values()], len(house)
(['2/7', '441/61', '3'], 6)
>>> house.text().split("\n")[3:]
['lend ann one low 1 4 6', 'pay bob salt 10', 'trade bob one salt 10']
>>> house.send("bob", "oil", ["one"], 2)
raises Short('bob')
"""


def defined(body):
    """The functions and classes that stand in a file or a class, by name."""
    return {node.name: node for node in body if isinstance(node, (ast.FunctionDef, ast.ClassDef))}


def parameters(node):
    return [argument.arg for argument in node.args.args if argument.arg not in ("self", "cls")]


def shown(error):
    """An error as the examples show it."""
    attributes = [repr(value) for value in vars(error).values()]
    return f"raises {type(error).__name__}({', '.join(attributes)})"


class Names(unittest.TestCase):
    def test_functions_classes_and_methods_stand_where_the_interface_lists_them(self):
        for file, listed in INTERFACE.items():
            with open(os.path.join(PACKAGE, f"{file}.py"), encoding="utf-8") as source:
                found = defined(ast.parse(source.read()).body)
            for name, wanted in listed.items():
                with self.subTest(file=file, name=name):
                    if isinstance(wanted, list):
                        self.assertEqual(parameters(found[name]), wanted)
                        continue
                    methods = defined(found[name].body)
                    self.assertEqual({method: parameters(methods[method]) for method in wanted}, wanted)

    def test_the_bottom_is_the_only_argument_with_a_default(self):
        signature = inspect.signature(ratios.Ratio)
        self.assertEqual(str(signature), "(top, bottom=1)")
        for file, listed in INTERFACE.items():
            for name, wanted in listed.items():
                found = getattr(FILES[file], name)
                methods = [] if isinstance(wanted, list) else [getattr(found, method) for method in wanted]
                for function in [found] + [method for method in methods if callable(method)]:
                    defaults = [one.name for one in inspect.signature(function).parameters.values()
                                if one.default is not one.empty]
                    self.assertEqual(defaults, ["bottom"] if function in (ratios.Ratio, ratios.Ratio.__init__) else [])

    def test_properties_and_class_methods(self):
        for kind, name in PROPERTIES:
            self.assertIsInstance(vars(kind)[name], property)
        for kind in (ratios.Ratio, profiles.Position):
            self.assertIsInstance(vars(kind)["read"], classmethod)


class Examples(unittest.TestCase):
    def follow(self, text):
        """Each value that is shown is that of the line ahead of it."""
        names = dict(vars(errors))
        for file in FILES.values():
            names.update(vars(file))
        found = None
        for line in text.strip().split("\n"):
            if not line.startswith(">>> "):
                self.assertEqual(found, line)
                continue
            code = line[4:]
            try:
                ast.parse(code, mode="eval")
            except SyntaxError:
                exec(code, names)
                continue
            try:
                found = repr(eval(code, names))
            except errors.PoolError as error:
                found = shown(error)

    def test_ratios(self):
        self.follow(RATIOS)

    def test_profiles(self):
        self.follow(PROFILES)

    def test_pools(self):
        self.follow(POOLS)

    def test_curves(self):
        self.follow(CURVES)

    def test_compare(self):
        self.follow(COMPARE)

    def test_webs(self):
        self.follow(WEBS)

    def test_prices(self):
        self.follow(PRICES)

    def test_keepers(self):
        self.follow(KEEPERS)

    def test_splits(self):
        self.follow(SPLITS)

    def test_worths(self):
        self.follow(WORTHS)

    def test_deeds(self):
        self.follow(DEEDS)

    def test_house(self):
        self.follow(HOUSE)


if __name__ == "__main__":
    unittest.main()
