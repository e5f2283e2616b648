"""Promises [30] to [34]: fair prices, rings that gain, and rows of trades."""

import random
import unittest
from fractions import Fraction
from itertools import permutations

from kit import (BELOW_0, BIGGER, NO_NAMES, NO_NUMBERS, Raises, Walk, end_along, fraction, letter_of, made_web, pool,
                 random_web_given, rate_of, ratio, texts, told_along)
from rangepools.curves import Curve, chain_of
from rangepools.errors import BadAmount, BadPrices, BadRing, NoGood, NoPool
from rangepools.prices import (are_fair, fair_prices, gaining_ring, has_gained, is_ring, ring_above, ring_amount, ring_curve,
                               ring_gains, rings, traded, value_of)
from rangepools.ratios import Ratio
from rangepools.webs import Web

ONE = pool("1 4 6", root=2)
SIX = pool("1 4 6", root=3)
EMPTY = pool(root=2)
RING = [("one", "oil"), ("two", "salt"), ("six", "tin")]


def three():
    return Web({"one": ("oil", "salt", ONE), "two": ("salt", "tin", ONE), "six": ("tin", "oil", SIX)})


def still():
    return Web({"one": ("oil", "salt", pool("1 4 6", root=2, fee="1/2"))})


def is_a_ring(given, ring):
    """Whether tuples (name, good) of a web are a ring, word by word as [31] says."""
    if len(ring) < 2 or len({name for name, _ in ring}) < len(ring) or len({good for _, good in ring}) < len(ring):
        return False
    return all(letter_of(given, name, good)[1] == ring[(at + 1) % len(ring)][1] for at, (name, good) in enumerate(ring))


def all_rings(given):
    """All rings of [34], found among all rows of tuples."""
    pairs = [(name, good) for name in given for good in given[name][:2]]
    found = [list(ring) for many in range(2, len(given) + 1) for ring in permutations(pairs, many)
             if ring[0][1] == min(good for _, good in ring) and is_a_ring(given, ring)]
    return sorted(found, key=lambda ring: (len(ring), ring))


def product_of(given, ring):
    """The product of the rates of a ring, or None if one of them is."""
    product = Fraction(1)
    for name, good in ring:
        rate = rate_of(given[name][2], letter_of(given, name, good)[0])
        if rate is None:
            return None
        product *= rate
    return product


def is_fair(given, prices):
    """Whether prices are fair, word by word as [30] says."""
    for name, (good, other, _) in given.items():
        for put_in, taken in ((good, other), (other, good)):
            rate = rate_of(given[name][2], letter_of(given, name, put_in)[0])
            if rate is not None and rate * prices[taken] > prices[put_in]:
                return False
    return True


def goods_of(given):
    return sorted({good for joint in given.values() for good in joint[:2]})


def once_round(web, ring):
    """The changes behind going once round a ring that gains."""
    amount, trades = ring_amount(web, ring), []
    for name, good in ring:
        trades.append((name, good, amount))
        amount = web.trade(name, good, amount)[2]
    return traded(web, trades)[1]


class Prices(unittest.TestCase, Raises):
    def test_are_fair(self):
        web = still()                                       # 2 salt for an oil, 1/8 oil for a salt
        for oil, salt, wanted in [(4, 1, True), (2, 1, True), (8, 1, True), (1, 1, False), (9, 1, False), (Ratio(19, 10), 1, False),
                                  (Ratio(81, 10), 1, False), (Ratio(1, 2), Ratio(1, 4), True), (BIGGER * 8, BIGGER, True),
                                  (BIGGER * 8 + 1, BIGGER, False)]:
            self.assertIs(are_fair(web, {"oil": oil, "salt": salt}), wanted)
            self.assertIs(are_fair(prices={"salt": salt, "oil": oil}, web=web), wanted)

    def test_rates_that_are_none(self):
        web = Web({"one": ("oil", "salt", EMPTY), "two": ("oil", "salt", pool("1 2 1", root=2))})
        self.assertTrue(are_fair(web, {"oil": 4, "salt": 1}) and are_fair(web, {"oil": 400, "salt": 1}))
        self.assertFalse(are_fair(web, {"oil": 3, "salt": 1}))
        bare = Web({"one": ("oil", "salt", EMPTY)})
        self.assertTrue(are_fair(bare, {"oil": Ratio(1, BIGGER), "salt": BIGGER}))
        self.assertTrue(are_fair(Web({}), {}))

    def test_dicts_that_are_no_prices(self):
        web = still()
        wrong = [{}, {"oil": 1}, {"oil": 4, "salt": 1, "tin": 1}, {"oil": 4, "tin": 1}, {"oil": 4, "salt": 1, None: 1}, {"OIL": 4, "salt": 1},
                 {"oil": 4, "salt": 1, 1: 1}, None, [], ["oil", "salt"], [("oil", 4), ("salt", 1)], "oil", 1, True]
        wrong += [{"oil": 4, "salt": number} for number in NO_NUMBERS + BELOW_0 + [0, Ratio(0)]]
        wrong += [{"oil": number, "salt": 1} for number in NO_NUMBERS + BELOW_0 + [0]]
        for prices in wrong:
            self.raised(BadPrices, are_fair, web, prices)
            self.raised(BadPrices, value_of, {"oil": Ratio(1), "salt": Ratio(-1)}, prices)
        self.raised(BadPrices, are_fair, Web({}), {"oil": 1})
        self.raised(BadPrices, are_fair, Web({}), None)

    def test_fair_prices(self):
        self.assertIsNone(fair_prices(three()))
        for web in (still(), Web({"one": ("oil", "salt", EMPTY)}), Web({"one": ("oil", "salt", ONE), "two": ("tin", "wax", SIX)})):
            prices = fair_prices(web)
            self.assertEqual(sorted(prices), web.goods())
            self.assertTrue(are_fair(web, prices))
            self.assertIsNone(gaining_ring(web))
            self.assertEqual({type(prices[good]) for good in prices}, {Ratio})
            prices.clear()
            self.assertTrue(are_fair(web, fair_prices(web=web)))
        self.assertEqual((fair_prices(Web({})), gaining_ring(Web({})), rings(Web({}))), ({}, None, []))

    def test_exactly_one_of_the_two_is_none(self):
        # Two pools whose fees are just enough for the gap between them, and then just less.
        for fee, gains in [("3/4", False), ("7/10", True), ("4/5", False)]:
            web = Web({"a": ("x", "y", pool("1 9 1", root=2)), "b": ("x", "y", pool("1 9 1", root=4, fee=fee))})
            self.assertIs(gaining_ring(web=web) is not None, gains)
            self.assertIs(fair_prices(web) is None, gains)

    def test_one_pool_both_ways_is_no_ring(self):
        web = Web({"a": ("x", "y", ONE)})
        self.assertEqual((rings(web), gaining_ring(web)), ([], None))
        self.assertFalse(is_ring(web, [("a", "x"), ("a", "y")]))


class Rings(unittest.TestCase, Raises):
    def test_is_ring(self):
        web = three()
        back = [("six", "oil"), ("two", "tin"), ("one", "salt")]
        for ring in (RING, back, tuple(RING), RING[1:] + RING[:1], RING[2:] + RING[:2]):
            self.assertIs(is_ring(web, ring), True)
        self.assertTrue(is_ring(ring=RING, web=web))
        wrong = [[], [RING[0]], RING[:2], RING + RING[:1], RING[::-1], [("one", "oil"), ("one", "salt")], [("one", "oil"), ("two", "tin")],
                 RING[:2] + [("six", "oil")], RING[:2] + [("six", "wax")], RING[:2] + [("ten", "tin")], RING + back, back + RING,
                 RING[:2] + [("six", None)], RING[:2] + [(None, "tin")], RING[:2] + [(["six"], {})], [("one", "tin")] * 3,
                 [("one", "oil"), ("one", "oil")], ["one", "two", "six"], [[*pair] for pair in RING], [("one", "oil", 1), *RING[1:]],
                 [(), ()], [None, None], None, True, 1, "ab", {}, {"one": "oil", "two": "salt"}, Ratio(1)]
        for ring in wrong:
            self.assertIs(is_ring(web, ring), False)
            for run in (ring_gains, ring_curve, ring_amount):
                self.raised(BadRing, run, web, ring)

    def test_rings_of_two_pools(self):
        web = Web({"a": ("x", "y", ONE), "b": ("x", "y", SIX), "c": ("y", "x", ONE)})
        self.assertEqual(rings(web), [[("a", "x"), ("b", "y")], [("a", "x"), ("c", "y")], [("b", "x"), ("a", "y")],
                                      [("b", "x"), ("c", "y")], [("c", "x"), ("a", "y")], [("c", "x"), ("b", "y")]])
        # One unit of x for 4 or 9 of y; in c, y is the good a: so it is 1/4 of y for one of x.
        self.assertEqual([ring_gains(web, ring) for ring in rings(web)], [False, True, True, True, False, False])
        self.assertEqual(gaining_ring(web), rings(web)[1])
        # No good may occur in two tuples, although all names are different.
        four = Web({name: ("x", "y", ONE) for name in "abcd"})
        self.assertIs(is_ring(four, [("a", "x"), ("b", "y"), ("c", "x"), ("d", "y")]), False)
        self.assertEqual((len(rings(four)), {len(ring) for ring in rings(four)}), (12, {2}))
        # A ring whose product is 1 does not gain.
        equal = Web({"a": ("x", "y", ONE), "b": ("x", "y", ONE)})
        self.assertEqual((gaining_ring(equal), len(rings(equal))), (None, 2))
        self.assertIsNone(ring_amount(equal, rings(equal)[0]))

    def test_gaining_rings(self):
        web = three()
        ring = gaining_ring(web)
        self.assertTrue(is_ring(web, ring) and ring_gains(web, ring))
        self.assertIs(ring_gains(ring=RING, web=web), True)
        self.assertIs(ring_gains(web, [("six", "oil"), ("two", "tin"), ("one", "salt")]), False)
        bare = Web({"one": ("oil", "salt", ONE), "two": ("salt", "tin", EMPTY), "six": ("tin", "oil", SIX)})
        self.assertEqual((ring_gains(bare, RING), gaining_ring(bare), ring_amount(bare, RING)), (False, None, None))
        self.assertTrue(are_fair(bare, fair_prices(bare)))
        self.assertEqual(ring_curve(bare, RING).pieces(), [])
        found = gaining_ring(web)
        found.clear()
        self.assertTrue(ring_gains(web, gaining_ring(web)))

    def test_curves_and_amounts(self):
        web = three()
        self.assertTrue(ring_curve(web, RING) == chain_of([ONE, ONE, SIX], "aaa"))
        self.assertTrue(ring_curve(ring=RING[1:] + RING[:1], web=web) == chain_of([ONE, SIX, ONE], "aaa"))
        self.assertIs(type(ring_curve(web, tuple(RING))), Curve)
        amount = ring_amount(ring=RING, web=web)
        self.assertTrue(amount < ring_curve(web, RING).told(amount))
        self.assertIsNone(ring_amount(web, [("six", "oil"), ("two", "tin"), ("one", "salt")]))

    def test_all_rings(self):
        web = three()
        self.assertEqual(rings(web=web), [RING, [("six", "oil"), ("two", "tin"), ("one", "salt")]])
        rings(web)[0].clear()
        rings(web).clear()
        self.assertEqual(rings(web)[0], RING)

    def test_rings_above_a_number(self):
        web = three()
        self.assertIsNone(ring_above(web, 100))
        for number in (0, 1, Ratio(1, 2)):
            ring, amount = ring_above(number=number, web=web)
            self.assertTrue(is_ring(web, ring) and amount + number < ring_curve(web, ring).told(amount))
        for number in NO_NUMBERS + BELOW_0:
            self.names(BadAmount, number, ring_above, web, number)
            self.names(BadAmount, number, ring_above, Web({}), number)
        self.assertIsNone(ring_above(Web({}), 0))
        self.assertIsNone(ring_above(still(), 0))

    def test_rings_above_a_number_whatever_good_they_begin_with(self):
        # Only little x is gained, but much y.
        web = Web({"a": ("x", "y", pool("10 40 6", root=20)), "b": ("x", "y", pool("10 40 6", root=30))})
        best = {good: 0 for good in "xy"}
        for ring in rings(web):
            for turned in (ring, ring[::-1]):
                amount = ring_amount(web, turned)
                if amount is not None:
                    best[turned[0][1]] = ring_curve(web, turned).told(amount) - amount
        self.assertTrue(best["x"] < 1 and Ratio(1) < best["y"])
        ring, amount = ring_above(web, 1)
        self.assertEqual(ring[0][1], "y")
        self.assertTrue(amount + 1 < ring_curve(web, ring).told(amount))


class Rows(unittest.TestCase, Raises):
    def test_rows_of_trades(self):
        web = three()
        after, changes = traded(web, [("one", "oil", 1), ("two", "salt", 3)])
        self.assertEqual((list(changes), texts(changes.values())), (["oil", "salt", "tin"], ["-1", "0", "6"]))
        self.assertTrue(after == web.trade("one", "oil", 1)[0].trade("two", "salt", 3)[0])
        after, changes = traded(trades=(("one", "oil", 4), ("one", "salt", 0)), web=web)
        self.assertEqual(texts(changes.values()), ["-3", "6", "0"])       # 1 is given back
        self.assertTrue(web == three())
        after, changes = traded(web, [])
        self.assertTrue(after == web)
        self.assertEqual((list(changes), texts(changes.values())), (["oil", "salt", "tin"], ["0", "0", "0"]))
        self.assertEqual(traded(Web({}), [])[1], {})

    def test_the_first_wrong_trade_counts(self):
        web, fine = three(), ("one", "oil", 1)
        for name in NO_NAMES + ["ten"]:
            self.names(NoPool, name, traded, web, [fine, (name, "wax", -1), ("one", "wax", 1)])
        for good in NO_NAMES + ["tin"]:
            self.names(NoGood, good, traded, web, [fine, ("one", good, -1), ("ten", "wax", 1)])
        for amount in NO_NUMBERS + BELOW_0:
            self.names(BadAmount, amount, traded, web, [fine, ("one", "oil", amount), ("ten", "wax", 1)])

    def test_has_gained(self):
        for numbers, wanted in [([], False), ([0, 0], False), ([0, 1], True), ([1, 2], True), ([1, -1], False), ([0, -1], False),
                                ([Ratio(1, BIGGER), 0, 0], True), ([Ratio(-1, BIGGER), 9, 9], False)]:
            changes = {name: Ratio(1) * number for name, number in zip("abc", numbers)}
            self.assertIs(has_gained(changes), wanted)
            self.assertIs(has_gained(changes=dict(zip("abc", numbers))), wanted)

    def test_value_of(self):
        changes = {"oil": Ratio(-1), "salt": Ratio(0), "tin": Ratio(6)}
        self.assertEqual(value_of(changes, {"tin": Ratio(1, 4), "oil": 1, "salt": 7}).text(), "1/2")
        self.assertEqual(value_of(prices={}, changes={}).text(), "0")
        self.assertIs(type(value_of({}, {})), Ratio)
        self.raised(BadPrices, value_of, {}, {"oil": 1})
        self.raised(BadPrices, value_of, changes, {"oil": 1, "salt": 7})

    def test_once_round_a_ring_that_gains(self):
        web = three()
        for ring in (RING, RING[1:] + RING[:1], RING[2:] + RING[:2]):
            self.assertTrue(has_gained(once_round(web, ring)))
        self.assertFalse(has_gained(traded(web, [])[1]))


class Reckoned(unittest.TestCase):
    """Many webs, once more with the standard library."""

    def test_rings_rates_and_prices(self):
        chance = random.Random(31)
        seen = {True: 0, False: 0}
        for _ in range(150):
            given = random_web_given(chance, most_pools=4)
            web, wanted = made_web(given), all_rings(given)
            self.assertEqual(rings(web), wanted)
            gaining = [ring for ring in wanted if (product_of(given, ring) or 0) > 1]
            for ring in wanted:
                turn = chance.randrange(len(ring))
                self.assertIs(ring_gains(web, ring[turn:] + ring[:turn]), ring in gaining)
                self.assertIs(ring_amount(web, ring) is not None, ring in gaining)
            prices, ring = fair_prices(web), gaining_ring(web)
            self.assertEqual((prices is None, ring is None), (bool(gaining), not gaining))
            seen[bool(gaining)] += 1
            if prices is None:
                self.assertTrue(is_a_ring(given, ring) and product_of(given, ring) > 1)
            else:
                self.assertTrue(is_fair(given, {good: fraction(prices[good]) for good in prices}))
            some = {good: random_price(chance, prices, good) for good in goods_of(given)}
            self.assertIs(are_fair(web, {good: ratio(some[good]) for good in some}), is_fair(given, some))
        self.assertTrue(min(seen.values()) > 30, seen)

    def test_rings_above(self):
        chance = random.Random(34)
        seen = {True: 0, False: 0}
        for _ in range(60):
            given = random_web_given(chance, most_pools=3, goods=("oil", "salt"))
            web, number = made_web(given), chance.choice([Fraction(0), Fraction(1, 50), Fraction(1), Fraction(5)])
            found = ring_above(web, ratio(number))
            seen[found is None] += 1
            if found is not None:
                amount = fraction(found[1])
                self.assertTrue(is_a_ring(given, found[0]) and told_along(given, found[0], amount) > amount + number)
                continue
            for ring in all_rings(given):
                for turned in (ring, ring[1:] + ring[:1]):
                    end = end_along(given, turned)
                    for share in range(1, 12):
                        amount = end * share / 11
                        self.assertLessEqual(told_along(given, turned, amount), amount + number)
        self.assertTrue(min(seen.values()) > 10, seen)

    def test_rows_of_trades(self):
        chance = random.Random(33)
        seen = {"fair": 0, "gained": 0}
        for _ in range(60):
            given = random_web_given(chance)
            web, stand = made_web(given), dict(given)
            wanted, trades = {good: Fraction(0) for good in goods_of(given)}, []
            for _ in range(chance.randint(0, 5)):
                name = chance.choice(sorted(given))
                good, amount = chance.choice(given[name][:2]), Fraction(chance.randint(0, 20), 3)
                letter, other = letter_of(given, name, good)
                first, second, (triples, root, fee) = stand[name]
                walk = Walk(triples, root, fee, letter, amount)
                stand[name] = first, second, (triples, walk.root, fee)
                wanted[good] += walk.left - amount
                wanted[other] += walk.taken
                trades.append((name, good, ratio(amount)))
            after, changes = traded(web, trades)
            self.assertEqual({good: fraction(changes[good]) for good in changes}, wanted)
            self.assertEqual(list(changes), sorted(wanted))
            self.assertTrue(after == made_web(stand))
            prices, ring = fair_prices(web), gaining_ring(web)
            if prices is None:
                self.assertTrue(has_gained(once_round(web, ring)))
                seen["gained"] += 1
            else:
                value = sum(wanted[good] * fraction(prices[good]) for good in wanted)
                self.assertEqual(fraction(value_of(changes, prices)), value)
                self.assertTrue(value <= 0 and not has_gained(changes))
                seen["fair"] += 1
        self.assertTrue(min(seen.values()) > 10, seen)


def random_price(chance, prices, good):
    """Often one of prices that are fair, or a little more."""
    if prices is None or chance.random() < 0.1:
        return Fraction(chance.randint(1, 6))
    return fraction(prices[good]) * chance.choice([1, 1, 1, Fraction(21, 20)])


if __name__ == "__main__":
    unittest.main()
