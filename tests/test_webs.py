"""Promises [25] to [29]: webs of pools, and the routes through them."""

import random
import unittest
from fractions import Fraction
from itertools import permutations

from kit import (BELOW_0, BIGGER, NO_NAMES, NO_NUMBERS, Raises, Walk, end_along, fraction, letter_of, made_web, pool,
                 random_web_given, rate_of, ratio, texts, told_along)
from rangepools.curves import Curve, chain_of, curve_of
from rangepools.errors import BadAmount, BadName, BadRoute, BadWeb, NoGood, NoPool, TooMuch
from rangepools.pools import Pool
from rangepools.ratios import Ratio
from rangepools.webs import (Web, best_route, better_route, is_best_route, leads_to, route_curve, routes, send)

ONE = pool("1 4 6", root=2)
SIX = pool("1 4 6", root=3)
EMPTY = pool(root=2)
NO_LISTS = [None, True, "one", "", {}, {"one": 1}, 1, Ratio(1)]


def three():
    return Web({"one": ("oil", "salt", ONE), "two": ("salt", "tin", ONE), "six": ("tin", "oil", SIX)})


def trades_of(given, start, route):
    """The list of (name, good) of a route, or None if it is none, word by word as [27] says."""
    trades = []
    for name in route:
        if name not in given or name in [used for used, _ in trades] or start not in given[name][:2]:
            return None
        trades.append((name, start))
        start = letter_of(given, name, start)[1]
    return trades or None


def goods_passed(given, start, route):
    passed = [start]
    for name in route:
        passed.append(letter_of(given, name, passed[-1])[1])
    return passed


def all_routes(given, start, end):
    """All routes of [27], found among all rows of names."""
    found = []
    for many in range(1, len(given) + 1):
        for names in permutations(sorted(given), many):
            if trades_of(given, start, names) is None:
                continue
            passed = goods_passed(given, start, names)
            if passed[-1] == end and len(set(passed)) == len(passed):
                found.append(list(names))
    return sorted(found, key=lambda route: (len(route), route))


class Webs(unittest.TestCase, Raises):
    def test_what_a_web_has(self):
        web = three()
        self.assertEqual((web.names(), web.goods(), len(web)), (["one", "six", "two"], ["oil", "salt", "tin"], 3))
        good, other, made = web.joins("six")
        self.assertEqual((good, other), ("tin", "oil"))
        self.assertTrue(made == SIX)
        self.assertIs(type(web.joins(name="one")), tuple)

    def test_a_web_without_pools(self):
        web = Web({})
        self.assertEqual((web.names(), web.goods(), len(web)), ([], [], 0))
        self.assertTrue(web == Web(pools={}))
        self.names(NoPool, "one", web.joins, "one")
        self.names(NoPool, "one", web.trade, "one", "oil", 1)
        self.names(NoGood, "oil", leads_to, web, "oil", [])
        self.names(NoGood, "oil", routes, web, "oil", "oil")

    def test_names_of_1_and_12_letters(self):
        web = Web({"z": ("abcdefghijkl", "a", ONE), "abcdefghijkl": ("a", "z", ONE)})
        self.assertEqual((web.names(), web.goods()), (["abcdefghijkl", "z"], ["a", "abcdefghijkl", "z"]))

    def test_keys_that_are_no_names(self):
        fine, wrong = ("oil", "salt", ONE), ("oil", "oil", ONE)
        for name in NO_NAMES:
            if isinstance(name, (list, dict, Ratio)):
                continue
            self.names(BadName, name, Web, {name: fine})
            self.names(BadName, name, Web, {"one": wrong, name: fine, "": fine, "B": wrong})
        self.names(BadName, "B", Web, {"b": None, "B": None, "A": None})

    def test_values_that_are_no_such_tuples(self):
        values = [None, True, 1, "oil", (), ("oil", "salt"), ["oil", "salt", ONE], ("oil", "salt", ONE, ONE), ("oil", "oil", ONE),
                  ("oil", "salt", None), ("oil", "salt", ONE.profile), (ONE, "oil", "salt"), {"oil": ONE}, ONE, Ratio(1)]
        values += [(name, "salt", ONE) for name in NO_NAMES] + [("oil", name, ONE) for name in NO_NAMES]
        for value in values:
            self.names(BadWeb, "one", Web, {"one": value})
            self.names(BadWeb, "z", Web, {"b": ("oil", "salt", ONE), "z": value, "a": None})

    def test_dicts_that_are_changed(self):
        given = {"one": ("oil", "salt", ONE), "two": ("salt", "tin", ONE)}
        web = Web(given)
        given["six"] = given["one"]
        del given["one"]
        given["two"] = None
        self.assertEqual((web.names(), web.goods(), len(web)), (["one", "two"], ["oil", "salt", "tin"], 2))
        for ask in (web.names, web.goods, lambda: routes(web, "oil", "tin"), lambda: best_route(web, "oil", "tin", 0)[0]):
            whole = ask()
            ask().clear()
            ask().append(1)
            self.assertEqual(ask(), whole)
            self.assertIsNot(ask(), ask())
        found = routes(web, "oil", "tin")
        found[0].clear()
        self.assertEqual(routes(web, "oil", "tin"), [["one", "two"]])

    def test_equal_webs(self):
        given = {"one": ("oil", "salt", ONE), "two": ("salt", "tin", ONE)}
        web = Web(given)
        self.assertTrue(web == Web({"two": given["two"], "one": ("oil", "salt", pool("1 2 6", "2 4 6", root=2))}))
        for other in (Web({"one": given["one"]}), Web({"one": given["one"], "six": given["two"]}), three(), Web({}),
                      Web({**given, "one": ("salt", "oil", ONE)}), Web({**given, "one": ("oil", "salt", SIX)}),
                      Web({**given, "one": ("oil", "wax", ONE)}), given, None, 0, list(given.items()), ONE):
            self.assertIs(web == other, False)
            self.assertIs(web != other, True)

    def test_joins_raises_for_any_other_value(self):
        web = three()
        for value in NO_NAMES + ["on", "ones", "oil", "ONE", ("one",), ["one"]]:
            self.names(NoPool, value, web.joins, value)
            self.names(NoPool, value, web.trade, value, None, None)
            self.names(NoPool, value, web.rate, value, None)


class TradesInWebs(unittest.TestCase, Raises):
    def test_trades(self):
        web = three()
        after, other, taken, left = web.trade("one", "oil", 1)
        self.assertEqual((other, texts([taken, left])), ("salt", ["3", "0"]))
        self.assertEqual(after.joins("one")[2].root.text(), "3/2")
        self.assertTrue(after == Web({"one": ("oil", "salt", pool("1 4 6", root="3/2")), "two": web.joins("two"),
                                      "six": web.joins("six")}))
        self.assertTrue(web == three())
        after, other, taken, left = web.trade(amount=13, good="salt", name="one")
        self.assertEqual((other, texts([taken, left]), after.joins("one")[2].root.text()), ("oil", ["3/2", "1"], "4"))
        self.assertIs(type(after), Web)

    def test_rates(self):
        web = three()
        self.assertEqual(texts([web.rate("six", "oil"), web.rate("six", "tin"), web.rate(good="oil", name="one")]),
                         ["1/9", "9", "4"])
        bare = Web({"one": ("oil", "salt", EMPTY), "two": ("oil", "salt", pool("1 2 1", root=2))})
        self.assertEqual([bare.rate("one", "oil"), bare.rate("one", "salt"), bare.rate("two", "salt")], [None] * 3)
        self.assertEqual(bare.rate("two", "oil").text(), "4")

    def test_errors_in_their_order(self):
        web = three()
        for good in NO_NAMES + ["tin", "wax", "a", "b", "OIL"]:
            self.names(NoGood, good, web.trade, "one", good, -1)
            self.names(NoGood, good, web.rate, "one", good)
        for amount in NO_NUMBERS + BELOW_0:
            self.names(BadAmount, amount, web.trade, "one", "oil", amount)
            self.names(BadAmount, amount, Web({"one": ("oil", "salt", EMPTY)}).trade, "one", "salt", amount)
        self.assertTrue(web == three())

    def test_as_the_standard_library_reckons(self):
        chance = random.Random(26)
        for _ in range(80):
            given = random_web_given(chance)
            web = made_web(given)
            name = chance.choice(sorted(given))
            for good in given[name][:2]:
                letter, other = letter_of(given, name, good)
                triples, root, fee = given[name][2]
                amount = chance.choice([Fraction(0), Fraction(1, 3), Fraction(8), Fraction(BIGGER)])
                walk = Walk(triples, root, fee, letter, amount)
                after, found, taken, left = web.trade(name, good, ratio(amount))
                self.assertEqual((found, fraction(taken), fraction(left)), (other, walk.taken, walk.left))
                self.assertTrue(after == made_web({**given, name: given[name][:2] + ((triples, walk.root, fee),)}))
                rate = web.rate(name, good)
                self.assertEqual(None if rate is None else fraction(rate), rate_of(given[name][2], letter))


class Routes(unittest.TestCase, Raises):
    def test_where_routes_lead(self):
        web = three()
        for start, route, end in [("oil", ["one"], "salt"), ("salt", ["one"], "oil"), ("salt", ["one", "six"], "tin"),
                                  ("oil", ["one", "two", "six"], "oil"), ("oil", ("six", "two"), "salt")]:
            self.assertEqual(leads_to(web, start, route), end)
        self.assertEqual(leads_to(route=["one"], start="oil", web=web), "salt")

    def test_routes_may_come_back_to_a_good(self):
        web = Web({"a": ("x", "y", ONE), "b": ("x", "y", SIX), "c": ("y", "x", ONE), "d": ("y", "z", ONE)})
        self.assertEqual(leads_to(web, "x", ["a", "b", "c", "d"]), "z")
        self.assertEqual(leads_to(web, "x", ["a", "c"]), "x")
        self.assertTrue(route_curve(web, "x", ["a", "b"]) == chain_of([ONE, SIX], "ab"))
        self.assertTrue(route_curve(web, "x", ["a", "c"]) == chain_of([ONE, ONE], "aa"))
        self.assertEqual(routes(web, "x", "z"), [["a", "d"], ["b", "d"], ["c", "d"]])

    def test_lists_that_are_no_routes(self):
        web = three()
        wrong = [[], (), ["two"], ["one", "six", "one"], ["one", "one"], ["one", "two", "one"], ["one", "four"], [""], ["one", None],
                 [None], [["one"]], [("one", "oil")], [Ratio(1)], ["one", "two", "six", "one"], [{}], ["oil"], [1]] + NO_LISTS
        for route in wrong:
            self.raised(BadRoute, leads_to, web, "oil", route)
            self.raised(BadRoute, route_curve, web, "oil", route)
            self.raised(BadRoute, send, web, "oil", route, -1)
            self.raised(BadRoute, is_best_route, web, "oil", "tin", route)
            self.raised(BadRoute, better_route, web, "oil", "tin", route)
        for start in NO_NAMES + ["wax", "one"]:
            self.names(NoGood, start, leads_to, web, start, ["four"])
            self.names(NoGood, start, route_curve, web, start, [])
            self.names(NoGood, start, send, web, start, [], -1)

    def test_errors_of_routes_in_their_order(self):
        web = three()
        for value in NO_NAMES + ["wax", "one"]:
            for run, further in [(routes, []), (best_route, [-1]), (is_best_route, [[]]), (better_route, [[]])]:
                self.names(NoGood, value, run, web, value, "wax", *further)
                self.names(NoGood, value, run, web, "oil", value, *further)
        for run, further in [(routes, []), (best_route, [-1]), (is_best_route, [["one"]]), (better_route, [["one"]])]:
            self.raised(BadRoute, run, web, "oil", "oil", *further)

    def test_all_routes(self):
        web = three()
        self.assertEqual(routes(web, "oil", "tin"), [["six"], ["one", "two"]])
        self.assertEqual(routes(end="oil", start="salt", web=web), [["one"], ["two", "six"]])
        several = Web({"b": ("x", "y", ONE), "a": ("y", "x", ONE), "c": ("x", "y", ONE), "ab": ("y", "z", ONE), "z": ("p", "q", ONE)})
        self.assertEqual(routes(several, "x", "y"), [["a"], ["b"], ["c"]])
        self.assertEqual(routes(several, "x", "z"), [["a", "ab"], ["b", "ab"], ["c", "ab"]])
        self.assertEqual(routes(several, "x", "p"), [])

    def test_all_routes_of_many_webs(self):
        chance = random.Random(27)
        lengths = set()
        for _ in range(80):
            given = random_web_given(chance)
            web = made_web(given)
            for start in web.goods():
                for end in web.goods():
                    if start != end:
                        found = routes(web, start, end)
                        self.assertEqual(found, all_routes(given, start, end))
                        lengths.update(len(route) for route in found)
                for route in permutations(sorted(given), min(2, len(given))):
                    if trades_of(given, start, route) is None:
                        self.raised(BadRoute, leads_to, web, start, route)
                    else:
                        self.assertEqual(leads_to(web, start, list(route)), goods_passed(given, start, route)[-1])
        self.assertEqual(lengths, {1, 2, 3})


class CurvesOfRoutes(unittest.TestCase, Raises):
    def test_curves(self):
        web = three()
        self.assertEqual(route_curve(web, "oil", ["one", "two"]).end().text(), "1")
        self.assertTrue(route_curve(web, "oil", ["six"]) == curve_of(SIX, "b"))
        self.assertTrue(route_curve(route=("one", "six"), start="salt", web=web) == chain_of([ONE, SIX], "bb"))
        self.assertIs(type(route_curve(web, "oil", ["one"])), Curve)

    def test_sent(self):
        web = three()
        after, taken = send(web, "oil", ["six"], 6)
        self.assertEqual((taken.text(), after.joins("six")[2].root.text()), ("1/2", "4"))
        after, taken = send(amount=1, route=("one", "two"), start="oil", web=web)
        self.assertEqual(texts([taken, after.joins("one")[2].root, after.joins("two")[2].root]), ["6", "3/2", "1"])
        self.assertTrue(after.joins("six")[2] == SIX and web == three())
        self.assertTrue(send(web, "oil", ["one"], 0) == (web, 0))

    def test_exactly_to_the_end_and_beyond(self):
        web = three()
        for route in (["six"], ["one", "two"], ["one"]):
            end = route_curve(web, "oil", route).end()
            after, taken = send(web, "oil", route, end)
            self.assertTrue(taken == route_curve(web, "oil", route).told(end))
            for more in (end + 1, end + Ratio(1, BIGGER)):
                self.raised(TooMuch, send, web, "oil", route, more)
        for amount in NO_NUMBERS + BELOW_0:
            self.names(BadAmount, amount, send, web, "oil", ["one"], amount)
        self.assertTrue(web == three())

    def test_routes_without_any_piece(self):
        web = Web({"one": ("oil", "salt", ONE), "two": ("salt", "tin", EMPTY)})
        for start, route in [("oil", ["one", "two"]), ("tin", ["two", "one"]), ("salt", ["two"])]:
            self.assertEqual(route_curve(web, start, route).pieces(), [])
            self.assertEqual(send(web, start, route, 0)[1].text(), "0")
            self.raised(TooMuch, send, web, start, route, Ratio(1, BIGGER))

    def test_as_the_standard_library_reckons(self):
        chance = random.Random(28)
        for _ in range(60):
            given = random_web_given(chance)
            web = made_web(given)
            for start in web.goods():
                for route in permutations(sorted(given), min(len(given), chance.randint(1, 4))):
                    trades = trades_of(given, start, route)
                    if trades is None or chance.random() < 0.7:
                        continue
                    end, curve = end_along(given, trades), route_curve(web, start, route)
                    self.assertEqual(fraction(curve.end()), end)
                    for amount in (end, end / 2, end / 7):
                        wanted = told_along(given, trades, amount)
                        after, taken = send(web, start, route, ratio(amount))
                        self.assertEqual((fraction(taken), fraction(curve.told(ratio(amount)))), (wanted, wanted))
                        self.assertTrue(after == self.behind(given, trades, amount))

    def behind(self, given, trades, amount):
        """The web behind trades, reckoned one after the other."""
        found = dict(given)
        for name, good in trades:
            first, second, (triples, root, fee) = given[name]
            walk = Walk(triples, root, fee, letter_of(given, name, good)[0], amount)
            found[name], amount = (first, second, (triples, walk.root, fee)), walk.taken
        return made_web(found)


class BestRoutes(unittest.TestCase, Raises):
    def test_best_for_an_amount(self):
        web = three()
        self.assertEqual([best_route(web, "oil", "tin", amount)[0] for amount in (0, 1)], [["six"], ["one", "two"]])
        route, taken = best_route(amount=Ratio(11, 10), end="tin", start="oil", web=web)
        self.assertEqual((route, taken.text()), (["six"], str(curve_of(SIX, "b").told(Ratio(11, 10)).text())))
        self.assertEqual(best_route(web, "oil", "tin", 6)[0], ["six"])
        self.assertIsNone(best_route(web, "oil", "tin", Ratio(6 * BIGGER + 1, BIGGER)))
        for amount in NO_NUMBERS + BELOW_0:
            self.names(BadAmount, amount, best_route, web, "oil", "tin", amount)

    def test_the_first_of_several_best_routes(self):
        web = Web({"c": ("x", "y", ONE), "b": ("x", "y", ONE), "a": ("x", "y", SIX)})
        self.assertEqual([best_route(web, "y", "x", amount)[0] for amount in (0, 1, 8)], [["a"], ["b"], ["b"]])
        self.assertEqual(best_route(web, "y", "x", 1)[1].text(), "3/13")
        self.assertTrue(is_best_route(web, "y", "x", ["b"]) and is_best_route(web, "y", "x", ["c"]))
        self.assertEqual(better_route(web, "y", "x", ["a"])[0], ["b"])
        web = Web({"b": ("x", "y", ONE), "c": ("x", "y", ONE), "a": ("x", "y", EMPTY)})
        self.assertTrue(is_best_route(web, "x", "y", ["b"]) and is_best_route(web, "x", "y", ["c"]))
        self.assertFalse(is_best_route(web, "x", "y", ["a"]))
        self.assertEqual(best_route(web, "x", "y", 0)[0], ["a"])

    def test_no_route_and_none_that_takes_anything(self):
        web = Web({"a": ("x", "y", EMPTY), "b": ("p", "q", ONE), "c": ("x", "y", pool("1 2 1", root=2, fee=0))})
        self.assertIsNone(best_route(web, "x", "p", 0))
        self.names(BadAmount, -1, best_route, web, "x", "p", -1)
        self.assertTrue(best_route(web, "y", "x", 0) == (["a"], 0))
        self.assertIsNone(best_route(web, "y", "x", 1))
        self.assertTrue(is_best_route(web, "y", "x", ["a"]) and is_best_route(web, "y", "x", ["c"]))
        self.raised(BadRoute, is_best_route, web, "x", "p", ["b"])

    def test_better_routes(self):
        web = three()
        self.assertFalse(is_best_route(web, "oil", "tin", ["one", "two"]))     # it ends before the other one
        route, amount = better_route(web, "oil", "tin", ("one", "two"))
        self.assertEqual(route, ["six"])
        self.assertTrue(Ratio(1) < amount and amount <= 6)
        route, amount = better_route(route=["six"], end="tin", start="oil", web=web)
        self.assertEqual(route, ["one", "two"])
        self.assertTrue(route_curve(web, "oil", ["six"]).told(amount) < route_curve(web, "oil", route).told(amount))
        for route in (["two"], ["one"], ["one", "two", "six"], ["six", "one", "two"], ["six", "six"]):
            self.raised(BadRoute, is_best_route, web, "oil", "tin", route)
        # A route from oil to tin, but one that comes to oil twice, is none of the routes.
        more = Web({"one": ("oil", "salt", ONE), "two": ("salt", "tin", ONE), "six": ("tin", "oil", SIX), "ten": ("oil", "salt", ONE)})
        self.assertEqual(leads_to(more, "oil", ["one", "ten", "six"]), "tin")
        self.raised(BadRoute, better_route, more, "oil", "tin", ["one", "ten", "six"])

    def test_one_that_ends_later_alone(self):
        web = Web({"a": ("x", "y", ONE), "b": ("x", "y", pool("1/2 4 6", root=2))})
        self.assertTrue(is_best_route(web, "x", "y", ["b"]))
        route, amount = better_route(web, "x", "y", ["a"])
        self.assertEqual(route, ["b"])
        self.assertTrue(curve_of(ONE, "a").end() < amount and amount <= route_curve(web, "x", ["b"]).end())
        self.assertTrue(is_best_route(web, "y", "x", ["a"]) and is_best_route(web, "y", "x", ["b"]))

    def test_as_the_standard_library_reckons(self):
        chance = random.Random(29)
        seen = {True: 0, False: 0, None: 0}
        for _ in range(50):
            given = random_web_given(chance, goods=("oil", "salt", "tin"))
            web = made_web(given)
            start, end = chance.sample(web.goods(), 2)
            ways = {tuple(route): trades_of(given, start, route) for route in routes(web, start, end)}
            ends = sorted({end_along(given, trades) for trades in ways.values()})
            amounts = ends + [one * Fraction(chance.randint(1, 9), 10) for one in ends] + [Fraction(0), max(ends, default=Fraction(0)) + 1]
            for amount in amounts:
                told = {route: told_along(given, trades, amount) for route, trades in ways.items()}
                most = max((number for number in told.values() if number is not None), default=None)
                best = best_route(web, start, end, ratio(amount))
                if most is None:
                    self.assertIsNone(best)
                    seen[None] += 1
                    continue
                first = [route for route in told if told[route] == most][0]
                self.assertEqual((best[0], fraction(best[1])), (list(first), most))
            for route, trades in ways.items():
                better = better_route(web, start, end, list(route))
                self.assertIs(is_best_route(web, start, end, list(route)), better is None)
                seen[better is None] += 1
                if better is not None:
                    amount = fraction(better[1])
                    mine, its = told_along(given, trades, amount), told_along(given, ways[tuple(better[0])], amount)
                    self.assertTrue(its is not None and (mine is None or mine < its))
                    continue
                for amount in amounts:
                    mine = told_along(given, trades, amount)
                    for other in ways.values():
                        its = told_along(given, other, amount)
                        self.assertTrue(its is None or (mine is not None and its <= mine))
        self.assertTrue(all(number > 10 for number in seen.values()), seen)

    def test_kinds_of_values(self):
        web = three()
        self.assertIs(type(best_route(web, "oil", "tin", 1)[1]), Ratio)
        self.assertIs(type(is_best_route(web, "oil", "tin", ["six"])), bool)
        self.assertIs(type(send(web, "oil", ["six"], 0)[1]), Ratio)
        self.assertIs(type(web.joins("one")[2]), Pool)
        self.assertIs(type(better_route(web, "oil", "tin", ["six"])[1]), Ratio)


if __name__ == "__main__":
    unittest.main()
