"""Promises [53] to [56]: the pools and the goods of a house, and the steps in it."""

import random
import unittest

from house_kit import PlainHouse, asked, filled, plain, random_step, shown, stands, told
from kit import BELOW_0, BIGGER, NO_NAMES, NO_NUMBERS, Raises, pool, texts
from rangepools.errors import (BadAmount, BadFee, BadName, BadNumber, BadRange, BadRoot, BadRoute, BadSize, InUse, NoGood,
                               NoPool, NoPosition, PoolError, Short, TooMuch)
from rangepools.house import House
from rangepools.keepers import Keeper
from rangepools.ratios import Ratio
from rangepools.webs import Web

NEAR = Ratio(1, BIGGER)
NO_POOLS = NO_NAMES + ["ten", "oil", "low", "ann"]
NO_POSITIONS = NO_NAMES + ["ten", "oil", "one", "ann"]


class Asked(unittest.TestCase, Raises):
    def setUp(self):
        self.house = filled()

    def wrong(self, error, value, method, *arguments):
        """An error with this value, without a step and with nothing changed."""
        before = stands(self.house)
        self.names(error, value, getattr(self.house, method), *arguments)
        self.assertEqual(stands(self.house), before)

    def plainly_wrong(self, error, method, *arguments):
        before = stands(self.house)
        self.raised(error, getattr(self.house, method), *arguments)
        self.assertEqual(stands(self.house), before)


class PoolsAndPurses(Asked):
    def test_an_empty_house(self):
        house = House()
        self.assertEqual((len(house), house.text(), house.purse("ann"), house.paid(), house.present()), (0, "", {}, {}, {}))
        self.assertTrue(house.web() == Web({}))

    def test_pools_are_added(self):
        house = House()
        self.assertIsNone(house.add("one", "oil", "salt", 2, Ratio(1, 10)))
        self.assertIsNone(house.add(fee=0, root=Ratio(1, 2), other="oil", good="salt", pool="abcdefghijkl"))
        self.assertTrue(house.web() == Web({"one": ("oil", "salt", pool(root=2, fee="1/10")),
                                            "abcdefghijkl": ("salt", "oil", pool(root="1/2"))}))
        self.assertEqual((len(house), house.present()), (2, {}))

    def test_errors_of_add_in_their_order(self):
        for name in NO_NAMES:
            self.wrong(BadName, name, "add", name, None, None, 0, 1)
            self.wrong(BadName, name, "add", "one", name, None, 0, 1)
            self.wrong(BadName, name, "add", "one", "oil", name, 0, 1)
        self.wrong(BadName, "oil", "add", "one", "oil", "oil", 0, 1)
        self.wrong(InUse, "one", "add", "one", "oil", "wax", 0, 1)
        for root in NO_NUMBERS + BELOW_0 + [0]:
            self.wrong(BadRoot, root, "add", "ten", "oil", "salt", root, 1)
        for fee in NO_NUMBERS + BELOW_0 + [1, Ratio(3, 2)]:
            self.wrong(BadFee, fee, "add", "ten", "oil", "salt", 2, fee)
        self.house.add("ten", "oil", "one", 2, Ratio(BIGGER - 1, BIGGER))

    def test_purses(self):
        house = House()
        self.assertIsNone(house.pay("ann", "salt", 5))
        self.assertIsNone(house.pay(amount=Ratio(1, 2), good="oil", person="ann"))
        house.pay("ann", "salt", 2)
        house.pay("ann", "zinc", 0)
        house.pay("bob", "oil", 0)
        self.assertEqual((shown(house.purse("ann")), len(house)), ([("oil", "1/2"), ("salt", "7")], 5))
        self.assertEqual(shown(house.paid()), [("oil", "1/2"), ("salt", "7")])
        for value in NO_NAMES + ["bob", "oil", "dot"]:
            self.assertEqual(house.purse(person=value), {})
        house.purse("ann").clear()
        house.paid().clear()
        house.present().clear()
        self.assertEqual([len(found) for found in (house.purse("ann"), house.paid(), house.present())], [2, 2, 2])

    def test_errors_of_pay_in_their_order(self):
        for name in NO_NAMES:
            self.wrong(BadName, name, "pay", name, None, -1)
            self.wrong(BadName, name, "pay", "ann", name, -1)
        for amount in NO_NUMBERS + BELOW_0:
            self.wrong(BadAmount, amount, "pay", "ann", "oil", amount)
            self.wrong(BadAmount, amount, "pay", "dot", "wax", amount)


class Lent(Asked):
    def test_what_is_brought_in_and_given_out(self):
        house = House()
        house.add("one", "oil", "salt", 2, Ratio(1, 10))
        house.pay("ann", "oil", 5)
        house.pay("ann", "salt", 40)
        self.assertEqual(texts(house.lend("ann", "one", "low", 1, 4, 6)), ["3/2", "6"])
        self.assertEqual(shown(house.purse("ann")), [("oil", "7/2"), ("salt", "34")])
        self.assertEqual(texts(house.grow(size=4, name="low", pool="one", person="ann")), ["1", "4"])
        self.assertEqual(texts(house.lessen(size=4, name="low", pool="one", person="ann")), ["1", "4"])
        self.assertEqual(shown(house.purse("ann")), [("oil", "7/2"), ("salt", "34")])
        self.assertEqual([str(one) for one in told(house.trade("ann", "one", "salt", 10))], ["oil", "9/7", "0"])
        self.assertEqual(texts(house.fees(name="low", pool="one")), ["0", "1"])
        self.assertEqual(texts(house.collect(name="low", pool="one", person="ann")), ["0", "1"])
        self.assertEqual(shown(house.purse("ann")), [("oil", "67/14"), ("salt", "25")])
        self.assertEqual(house.owner(name="low", pool="one"), "ann")
        self.assertEqual(texts(house.close(name="low", pool="one", person="ann")), ["3/14", "15"])
        self.assertEqual(shown(house.purse("ann")), [("oil", "5"), ("salt", "40")])
        self.assertEqual(len(house), 9)
        self.assertEqual(texts(house.lend(size=1, high=2, low=1, name="low", pool="one", person="ann")), ["0", "1"])

    def test_errors_in_their_order(self):
        calls = {"lend": ["low", None, 0, 0], "grow": ["xyz", 0], "lessen": ["xyz", 0], "collect": ["xyz"], "close": ["xyz"]}
        for method, further in calls.items():
            for person in NO_NAMES:
                self.wrong(BadName, person, method, person, None, *further)
            for name in NO_POOLS:
                self.wrong(NoPool, name, method, "ann", name, *further)
                self.wrong(NoPool, name, method, "dot", name, *further)
        for name in NO_NAMES:
            self.wrong(BadName, name, "lend", "ann", "one", name, None, 0, 0)
        for name in ("low", "high"):
            for person in ("ann", "bob", "dot"):
                self.wrong(InUse, name, "lend", person, "one", name, None, 0, 0)
        for value in NO_NUMBERS:
            self.wrong(BadNumber, value, "lend", "dot", "one", "new", 3, value, None)
        self.plainly_wrong(BadRange, "lend", "dot", "one", "new", 3, 3, 0)
        for size in BELOW_0 + [0]:
            self.wrong(BadSize, size, "lend", "dot", "one", "new", 3, 4, size)
        for method in ("grow", "lessen", "collect", "close"):
            further = [0] if method in ("grow", "lessen") else []
            for name in NO_POSITIONS:
                self.wrong(NoPosition, name, method, "ann", "one", name, *further)
        for method in ("grow", "lessen"):
            for size in NO_NUMBERS + BELOW_0 + [0]:
                self.wrong(BadSize, size, method, "ann", "one", "low", size)
        self.wrong(BadSize, Ratio(6) + NEAR, "lessen", "ann", "one", "low", Ratio(6) + NEAR)

    def test_positions_of_somebody_else(self):
        for person, name in [("ann", "high"), ("bob", "low"), ("cid", "low"), ("dot", "high")]:
            for method, further in [("grow", [0]), ("lessen", [0]), ("collect", []), ("close", [])]:
                self.wrong(NoPosition, name, method, person, "one", name, *further)
        # A name belongs to its pool: there is another owner for the same name elsewhere.
        self.house.lend("bob", "two", "high", 1, 4, 6)
        self.assertEqual([self.house.owner("one", "low"), self.house.owner("two", "low"), self.house.owner("two", "high")], ["ann", "ann", "bob"])
        self.house.close("bob", "two", "high")
        self.wrong(NoPosition, "high", "close", "bob", "two", "high")
        self.house.lend("cid", "two", "high", 1, 4, 6)
        self.assertEqual((self.house.owner("two", "high"), self.house.owner("one", "high")), ("cid", "bob"))

    def test_owners_and_fees(self):
        self.assertEqual([self.house.owner("one", name) for name in ("low", "high")], ["ann", "bob"])
        self.assertEqual([texts(self.house.fees("one", name)) for name in ("low", "high")], [["0", "2/3"], ["0", "1/3"]])
        for run in (self.house.owner, self.house.fees):
            for name in NO_POOLS:
                self.names(NoPool, name, run, name, None)
            for name in NO_POSITIONS + ["high"]:
                self.names(NoPosition, name, run, "two", name)

    def test_purses_that_are_just_enough_and_too_small(self):
        house = self.house = House()
        house.add("one", "oil", "salt", 2, 0)
        house.pay("ann", "oil", 1)
        house.pay("ann", "salt", Ratio(6) - NEAR)
        self.wrong(Short, "ann", "lend", "ann", "one", "low", 1, 3, 6)
        house.pay("ann", "salt", NEAR)
        self.assertEqual(texts(house.lend("ann", "one", "low", 1, 3, 6)), ["1", "6"])
        self.assertEqual(house.purse("ann"), {})
        self.wrong(Short, "ann", "grow", "ann", "one", "low", NEAR)
        house.pay("ann", "salt", 6)
        self.wrong(Short, "ann", "grow", "ann", "one", "low", NEAR)         # the first of the two goods is missing
        house.pay("ann", "oil", 1)
        self.assertEqual(texts(house.grow("ann", "one", "low", 6)), ["1", "6"])
        house.pay("bob", "salt", 1)
        self.assertEqual(texts(house.lend("bob", "one", "own", 1, 2, 1)), ["0", "1"])    # of oil nothing is brought in
        self.wrong(Short, "bob", "lend", "bob", "one", "more", 1, 2, 1)
        self.wrong(Short, "dot", "lend", "dot", "one", "more", 1, 2, 1)

    def test_sizes_of_0(self):
        self.house.lessen("ann", "two", "low", 6)
        self.assertEqual(texts(self.house.fees("two", "low")), ["0", "0"])
        self.wrong(BadSize, 1, "lessen", "ann", "two", "low", 1)
        self.wrong(InUse, "low", "lend", "ann", "two", "low", 1, 2, 3)
        self.assertEqual(texts(self.house.close("ann", "two", "low")), ["0", "0"])


class Traded(Asked):
    def test_trades(self):
        keeper = Keeper(2, Ratio(1, 10))
        for values in (("low", 1, 4, 6), ("high", 2, 5, 3)):
            keeper.lend(*values)
        keeper.trade("b", 10)
        before = self.house.purse("cid")
        for good, letter, amount in [("salt", "b", 4), ("oil", "a", 2), ("salt", "b", 60), ("oil", "a", Ratio(0))]:
            other, taken, left = self.house.trade(amount=amount, good=good, pool="one", person="cid")
            self.assertEqual(texts([taken, left]), texts(keeper.trade(letter, amount)))
            self.assertEqual(other, {"oil": "salt", "salt": "oil"}[good])
            before = {name: before[name] + (taken if name == other else left - amount if name == good else 0) for name in before}
            self.assertEqual(shown(self.house.purse("cid")), shown(before))
            self.assertEqual([texts(self.house.fees("one", name)) for name in ("low", "high")],
                             [texts(keeper.fees(name)) for name in ("low", "high")])

    def test_errors_of_trade_in_their_order(self):
        for person in NO_NAMES:
            self.wrong(BadName, person, "trade", person, None, None, -1)
        for name in NO_POOLS:
            self.wrong(NoPool, name, "trade", "dot", name, None, -1)
        for good in NO_NAMES + ["tin", "a", "b", "one"]:
            self.wrong(NoGood, good, "trade", "dot", "one", good, -1)
        for amount in NO_NUMBERS + BELOW_0:
            self.wrong(BadAmount, amount, "trade", "dot", "one", "oil", amount)
        self.wrong(Short, "dot", "trade", "dot", "one", "oil", NEAR)
        self.assertEqual(told(self.house.trade("dot", "one", "oil", 0)), ("salt", 0, 0))
        self.wrong(Short, "ann", "trade", "ann", "one", "salt", self.house.purse("ann")["salt"] + NEAR)
        # Also if most of it would be given back.
        self.wrong(Short, "cid", "trade", "cid", "one", "oil", BIGGER)
        self.house.trade("ann", "one", "salt", self.house.purse("ann")["salt"])
        self.assertTrue(Ratio(0) < self.house.purse("ann")["salt"])          # what was given back

    def test_sent(self):
        house = self.house
        wanted = house.web().trade("one", "oil", Ratio(1, 10))[2]
        wanted = house.web().trade("two", "salt", wanted)[2]
        before = house.purse("cid")
        self.assertTrue(house.send(amount=Ratio(1, 10), route=("one", "two"), start="oil", person="cid") == wanted)
        self.assertEqual(shown(house.purse("cid")), shown({"oil": before["oil"] - Ratio(1, 10), "salt": before["salt"],
                                                           "tin": before["tin"] + wanted}))
        # From 3 the root price of the first pool falls, below which both positions have a share.
        self.assertEqual([texts(house.fees("one", name)) for name in ("low", "high")], [["1/150", "2/3"], ["1/300", "1/3"]])
        self.assertEqual(house.send("dot", "oil", ["one"], 0).text(), "0")

    def test_errors_of_send_in_their_order(self):
        for person in NO_NAMES:
            self.wrong(BadName, person, "send", person, None, [], -1)
        for start in NO_NAMES + ["wax", "one"]:
            self.wrong(NoGood, start, "send", "dot", start, [], -1)
        for route in ([], ["two"], ["one", "one"], ["one", "ten"], [None], [["one"]], ["one", "two", "one"], None, "one", {}):
            self.plainly_wrong(BadRoute, "send", "dot", "oil", route, -1)
        for amount in NO_NUMBERS + BELOW_0:
            self.wrong(BadAmount, amount, "send", "dot", "oil", ["one"], amount)
        self.plainly_wrong(TooMuch, "send", "dot", "oil", ["one"], 50)
        self.wrong(Short, "dot", "send", "dot", "oil", ["one"], NEAR)

    def test_lists_that_are_changed(self):
        route = ["one", "two"]
        self.house.send("cid", "oil", route, Ratio(1, 10))
        before = stands(self.house)
        route.pop()
        self.assertEqual(stands(self.house), before)
        self.assertTrue(self.house.text().endswith("send cid oil one,two 1/10"))


class Sums(Asked):
    def test_the_web(self):
        keeper = Keeper(2, Ratio(1, 10))
        keeper.lend("x", 1, 4, 6)
        keeper.lend("y", 2, 5, 3)
        keeper.trade("b", 10)
        self.assertTrue(self.house.web() == Web({"one": ("oil", "salt", keeper.pool()), "two": ("salt", "tin", pool("1 4 6", root=2))}))
        web = self.house.web()
        self.house.trade("cid", "one", "salt", 1)
        self.assertFalse(self.house.web() == web)

    def test_paid_and_present(self):
        self.assertEqual(shown(self.house.paid()), [("oil", "300"), ("salt", "300"), ("tin", "300")])
        self.house.pay("dot", "ale", Ratio(1, 3))
        self.assertEqual(shown(self.house.paid())[0], ("ale", "1/3"))
        self.assertEqual(self.house.paid(), self.house.present())
        self.assertIsNot(self.house.paid(), self.house.paid())
        for name in ("low", "high"):
            self.house.close(self.house.owner("one", name), "one", name)
        self.assertEqual(self.house.paid(), self.house.present())

    def test_as_plain_ledgers_and_purses_tell(self):
        chance = random.Random(53)
        words, shorts = {}, 0
        for _ in range(40):
            house, wanted = House(), PlainHouse()
            for _ in range(140):
                word, *values = random_step(chance, wanted)
                words[word] = words.get(word, 0) + 1
                behind, found = wanted.twin(), None
                try:
                    found = getattr(behind, word)(*values)
                except (AssertionError, KeyError, ValueError):
                    pass
                before = len(house)
                try:
                    given = told(getattr(house, word)(*asked(values)))
                except PoolError as error:
                    if type(error) is Short:
                        self.assertIsNone(found)
                        shorts += 1
                    self.assertEqual(len(house), before)
                    self.compare(house, wanted)
                    continue
                self.assertEqual((given, len(house)), (found, before + 1))
                wanted = behind
            self.compare(house, wanted)
            self.assertEqual(plain(house.present()), wanted.present())
        self.assertTrue(shorts > 20 and all(number > 20 for number in words.values()), (shorts, words))

    def compare(self, house, wanted):
        for person in ("ann", "bob", "cid", "dot"):
            self.assertEqual(list(plain(house.purse(person)).items()), list(wanted.purse(person).items()))
        self.assertEqual(house.paid(), house.present())
        for name, (good, other, ledger) in wanted.pools.items():
            for place in ledger.places:
                self.assertEqual(house.owner(name, place), wanted.owners[name, place])
                self.assertEqual(told(house.fees(name, place)), ledger.fees[place])


if __name__ == "__main__":
    unittest.main()
