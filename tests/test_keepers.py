"""Promises [40], [41] and [42]: keepers, their named positions and the fees of these."""

import random
import unittest
from fractions import Fraction

from kit import (BELOW_0, BIGGER, FEES, NO_GOODS, NO_NAMES, NO_NUMBERS, Ledger, Raises, fraction, fractions, made_pool, pool,
                 profile, random_fraction, random_keeper_deed, ratio, texts)
from rangepools.errors import (BadAmount, BadFee, BadGood, BadName, BadNumber, BadRange, BadRoot, BadSize, InUse,
                               NoPosition)
from rangepools.keepers import Keeper
from rangepools.pools import Pool
from rangepools.ratios import Ratio

LONGEST = "abcdefghijkl"
HALF = Ratio(1, 2)
NO_FEES = ["0", "0"]


def kept(*lent, root, fee="0"):
    """The keeper with some positions, each given by a name and the text of a position."""
    keeper = Keeper(Ratio.read(str(root)), Ratio.read(str(fee)))
    for words in lent:
        name, *numbers = words.split(" ")
        keeper.lend(name, *[Ratio.read(number) for number in numbers])
    return keeper


def stands(keeper):
    """All that can be seen of a keeper, as texts."""
    made = keeper.pool()
    return (made.root.text(), made.fee.text(), texts(keeper.holds()),
            [(name, texts(keeper.position(name)), texts(keeper.fees(name))) for name in keeper.names()])


class Asked(unittest.TestCase, Raises):
    """Before each test and behind it, what is asked for must hold for the same keeper."""

    def unchanged(self, keeper, error, value, run, *arguments):
        before = stands(keeper)
        if value is None and error is BadRange:
            self.raised(error, run, *arguments)
        else:
            self.names(error, value, run, *arguments)
        self.assertEqual(stands(keeper), before)


class Opened(Asked):
    def test_at_first_there_are_no_positions(self):
        keeper = Keeper(2, Ratio(1, 10))
        self.assertEqual(stands(keeper), ("2", "1/10", NO_FEES, []))
        self.assertTrue(keeper.pool() == pool(root=2, fee="1/10"))
        self.assertIs(type(keeper.pool()), Pool)
        self.assertEqual(stands(Keeper(fee=0, root=HALF)), ("1/2", "0", NO_FEES, []))

    def test_errors_of_a_keeper(self):
        for value in NO_NUMBERS + BELOW_0 + [0]:
            self.names(BadRoot, value, Keeper, value, 0)
            self.names(BadRoot, value, Keeper, value, 2)
        for value in NO_NUMBERS + BELOW_0 + [1, 2, Ratio(3, 2)]:
            self.names(BadFee, value, Keeper, 1, value)
        self.assertEqual(stands(Keeper(1, Ratio(BIGGER - 1, BIGGER)))[1], f"{BIGGER - 1}/{BIGGER}")

    def test_lend_returns_what_is_brought_in(self):
        for root, wanted in [("2", ["1", "6"]), ("1", ["4", "0"]), ("1/2", ["4", "0"]), ("3", ["0", "12"]), ("9", ["0", "12"])]:
            keeper = kept(root=root)
            self.assertEqual(texts(keeper.lend("a", 1, 3, 6)), wanted)
            self.assertEqual(texts(keeper.holds()), wanted)
            self.assertEqual((texts(keeper.position("a")), texts(keeper.fees("a"))), (["1", "3", "6"], NO_FEES))
            self.assertEqual(texts(keeper.lend(size=HALF, high=2, low=1, name=LONGEST)),
                             texts(pool("1 2 1/2", root=root).profile.holds(Ratio.read(root))))

    def test_errors_of_lend_in_their_order(self):
        keeper = kept("ann 1 3 6", root=2)
        for name in NO_NAMES:
            self.unchanged(keeper, BadName, name, keeper.lend, name, None, 0, 0)
        self.unchanged(keeper, InUse, "ann", keeper.lend, "ann", None, 0, 0)
        self.unchanged(keeper, InUse, "ann", keeper.lend, "ann", 1, 3, 6)
        for value in NO_NUMBERS:
            self.unchanged(keeper, BadNumber, value, keeper.lend, "bob", value, "x", "y")
            self.unchanged(keeper, BadNumber, value, keeper.lend, "bob", -1, value, "y")
            self.unchanged(keeper, BadNumber, value, keeper.lend, "bob", 3, 1, value)
        for low, high in [(0, 1), (-1, 1), (2, 2), (3, 2)]:
            self.unchanged(keeper, BadRange, None, keeper.lend, "bob", low, high, 0)
        for size in [0] + BELOW_0:
            self.unchanged(keeper, BadSize, size, keeper.lend, "bob", 1, 2, size)
        self.assertEqual(texts(keeper.lend("bob", 1, 2, 1)), ["0", "1"])

    def test_grow_and_lessen(self):
        keeper = kept("ann 1 3 6", "bob 2 5 3", root=2)
        self.assertEqual(texts(keeper.grow("ann", HALF)), ["1/12", "1/2"])
        self.assertEqual(texts(keeper.position("ann")), ["1", "3", "13/2"])
        self.assertEqual(texts(keeper.lessen("ann", 6)), ["1", "6"])
        self.assertEqual(texts(keeper.position("ann")), ["1", "3", "1/2"])
        self.assertEqual(texts(keeper.lessen(size=3, name="bob")), ["9/10", "0"])
        self.assertEqual((keeper.names(), texts(keeper.position("bob"))), (["ann", "bob"], ["2", "5", "0"]))
        self.assertTrue(keeper.pool() == pool("1 3 1/2", root=2))
        self.assertEqual(texts(keeper.grow(size=1, name="bob")), ["3/10", "0"])
        self.assertTrue(keeper.pool() == pool("1 3 1/2", "2 5 1", root=2))

    def test_errors_of_grow_and_lessen_in_their_order(self):
        keeper = kept("ann 1 3 6", "bob 2 5 3", root=2)
        keeper.lessen("bob", 3)
        for change in (keeper.grow, keeper.lessen):
            for name in NO_NAMES + ["cid", "annn", "an"]:
                self.unchanged(keeper, NoPosition, name, change, name, 0)
            for size in NO_NUMBERS + BELOW_0 + [0]:
                self.unchanged(keeper, BadSize, size, change, "ann", size)
        for size in [7, Ratio(6 * BIGGER + 1, BIGGER)]:
            self.unchanged(keeper, BadSize, size, keeper.lessen, "ann", size)
        self.unchanged(keeper, BadSize, 1, keeper.lessen, "bob", 1)
        self.assertEqual(texts(keeper.lessen("ann", 6)), ["1", "6"])
        self.assertEqual(texts(keeper.holds()), NO_FEES)


class Traded(Asked):
    def test_a_trade_gives_what_the_pool_gives(self):
        keeper = kept("ann 1 3 6", "bob 4 5 2", root=2, fee="1/10")
        self.assertEqual(texts(keeper.trade("b", 10)), ["11/10", "10/9"])
        self.assertEqual(keeper.pool().root.text(), "5")
        self.assertEqual([texts(keeper.fees(name)) for name in ("ann", "bob")], [["0", "2/3"], ["0", "2/9"]])
        self.assertEqual(texts(keeper.trade(amount=0, good="a")), ["0", "0"])

    def test_errors_of_trade_in_their_order(self):
        keeper = kept("ann 1 3 6", root=2, fee="1/10")
        keeper.trade("b", 1)
        for good in NO_GOODS:
            self.unchanged(keeper, BadGood, good, keeper.trade, good, -1)
        for amount in NO_NUMBERS + BELOW_0:
            self.unchanged(keeper, BadAmount, amount, keeper.trade, "a", amount)

    def test_nothing_to_trade_with(self):
        for keeper in (kept(root=2, fee="1/2"), kept("ann 1 2 3", root=2, fee="1/2"), kept("ann 3 4 1", root=2)):
            good = "a" if keeper.names() and keeper.pool().profile.size_at(3) == 1 else "b"
            self.assertEqual(texts(keeper.trade(good, 7)), ["0", "7"])
            self.assertEqual(keeper.pool().root.text(), "2")
        keeper = kept("ann 1 3 6", root=2, fee="1/2")
        keeper.lessen("ann", 6)
        self.assertEqual([texts(keeper.trade(good, 7)) for good in "ab"], [["0", "7"], ["0", "7"]])
        self.assertEqual(stands(keeper), ("2", "1/2", NO_FEES, [("ann", ["1", "3", "0"], NO_FEES)]))

    def test_the_fee_is_cut_at_ends_with_the_same_size_on_both_sides(self):
        # The profile has no end at 2, but the fee behind it belongs to bob.
        keeper = kept("ann 1 2 3", "bob 2 3 3", root=1, fee="1/2")
        self.assertEqual(len(keeper.pool().profile.ends()), 2)
        self.assertEqual(texts(keeper.trade("b", 8)), ["12/7", "0"])
        self.assertEqual([texts(keeper.fees(name)) for name in ("ann", "bob")], [["0", "3"], ["0", "1"]])
        keeper.trade("a", 1)
        # From 7/3 down to 2 the fee is bob's: 3 (1/2 - 3/7), as it is as much as the net amount. The rest is ann's.
        self.assertEqual(texts(keeper.fees("bob")), ["3/14", "1"])
        self.assertEqual(texts(keeper.fees("ann")), ["2/7", "3"])

    def test_the_fee_is_shared_in_proportion_to_the_sizes(self):
        keeper = kept("ann 1 4 6", "bob 2 3 2", "cid 2 3 4", root=2, fee="1/4")
        keeper.trade("b", 16)                       # 12 are exchanged from 2 to 3
        self.assertEqual(keeper.pool().root.text(), "3")
        self.assertEqual([texts(keeper.fees(name)) for name in keeper.names()], [["0", "2"], ["0", "2/3"], ["0", "4/3"]])
        keeper.trade("b", 8)                        # beyond 3 ann has it alone
        self.assertEqual([texts(keeper.fees(name)) for name in keeper.names()], [["0", "4"], ["0", "2/3"], ["0", "4/3"]])

    def test_no_fee_beyond_everything_and_in_gaps(self):
        keeper = kept("ann 1 2 3", "bob 3 4 3", root=1, fee="1/2")
        self.assertEqual(texts(keeper.trade("b", 100)), ["7/4", "88"])
        self.assertEqual([texts(keeper.fees(name)) for name in keeper.names()], [["0", "3"], ["0", "3"]])
        self.assertEqual(texts(keeper.holds()), ["0", "12"])
        keeper.trade("a", 100)
        self.assertEqual(keeper.pool().root.text(), "1")
        self.assertEqual([texts(keeper.fees(name)) for name in keeper.names()], [["3/2", "3"], ["1/4", "3"]])

    def test_without_a_fee_and_with_almost_all_as_fee(self):
        keeper = kept("ann 1 3 6", root=2)
        keeper.trade("b", 3)
        keeper.trade("a", 3)
        self.assertEqual(texts(keeper.fees("ann")), NO_FEES)
        keeper = kept("ann 1 3 6", root=2, fee=f"{BIGGER - 1}/{BIGGER}")
        self.assertEqual(texts(keeper.trade("b", BIGGER)), ["3/13", "0"])       # from 2 to 13/6
        self.assertEqual(texts(keeper.fees("ann")), ["0", str(BIGGER - 1)])

    def test_fees_from_the_opening_on_alone(self):
        keeper = kept("ann 1 3 6", root=2, fee="1/10")
        keeper.trade("b", 3)
        before = texts(keeper.fees("ann"))
        keeper.lend("bob", 1, 3, 6)
        self.assertEqual(texts(keeper.fees("bob")), NO_FEES)
        self.assertEqual(texts(keeper.fees("ann")), before)
        keeper.trade("b", 2)
        self.assertEqual([texts(keeper.fees(name)) for name in ("ann", "bob")], [["0", "2/5"], ["0", "1/10"]])

    def test_sizes_at_that_time(self):
        keeper = kept("ann 1 9 6", "bob 1 9 6", root=2, fee="1/2")
        keeper.trade("b", 8)
        keeper.grow("ann", 6)
        keeper.trade("b", 6)
        self.assertEqual([texts(keeper.fees(name)) for name in keeper.names()], [["0", "4"], ["0", "3"]])
        keeper.lessen("ann", 12)
        keeper.trade("b", 2)
        self.assertEqual([texts(keeper.fees(name)) for name in keeper.names()], [["0", "4"], ["0", "4"]])
        keeper.grow("ann", 18)
        keeper.trade("b", 4)
        self.assertEqual([texts(keeper.fees(name)) for name in keeper.names()], [["0", "11/2"], ["0", "9/2"]])


class GivenOut(Asked):
    def setUp(self):
        self.keeper = kept("ann 1 3 6", "bob 2 5 3", root=2, fee="1/10")
        self.keeper.trade("b", 20)

    def test_collect(self):
        self.assertEqual(texts(self.keeper.collect("bob")), ["0", "1"])
        self.assertEqual(texts(self.keeper.fees(name="bob")), NO_FEES)
        self.assertEqual(texts(self.keeper.collect(name="bob")), NO_FEES)
        self.assertEqual(texts(self.keeper.fees("ann")), ["0", "2/3"])
        self.assertEqual(texts(self.keeper.holds()), ["0", "65/3"])

    def test_close(self):
        self.assertEqual(texts(self.keeper.close("bob")), ["0", "10"])
        self.assertEqual(self.keeper.names(), ["ann"])
        for method in (self.keeper.fees, self.keeper.collect, self.keeper.close, self.keeper.position):
            self.unchanged(self.keeper, NoPosition, "bob", method, "bob")
        self.assertEqual(texts(self.keeper.close(name="ann")), ["0", "38/3"])
        self.assertEqual(stands(self.keeper), ("5", "1/10", NO_FEES, []))
        self.assertTrue(self.keeper.pool() == pool(root=5, fee="1/10"))

    def test_errors(self):
        for method in (self.keeper.fees, self.keeper.collect, self.keeper.close, self.keeper.position):
            for name in NO_NAMES + ["cid", "annn", "an"]:
                self.unchanged(self.keeper, NoPosition, name, method, name)

    def test_a_name_is_used_again_behind_its_closing(self):
        self.keeper.close("ann")
        self.assertEqual(texts(self.keeper.lend("ann", 4, 6, 30)), ["1", "30"])
        self.assertEqual((self.keeper.names(), texts(self.keeper.fees("ann"))), (["bob", "ann"], NO_FEES))
        self.assertEqual(texts(self.keeper.position("ann")), ["4", "6", "30"])

    def test_a_size_of_0_keeps_the_fees(self):
        self.assertEqual(texts(self.keeper.lessen("bob", 3)), ["0", "9"])
        self.assertEqual(texts(self.keeper.fees("bob")), ["0", "1"])
        self.assertEqual(self.keeper.names(), ["ann", "bob"])
        self.keeper.trade("a", 1)
        self.assertEqual(texts(self.keeper.fees("bob")), ["0", "1"])
        self.names(InUse, "bob", self.keeper.lend, "bob", 1, 2, 3)
        other = self.keeper.twin()
        self.assertEqual(texts(self.keeper.close("bob")), ["0", "1"])
        self.assertEqual(texts(other.collect("bob")), ["0", "1"])
        self.assertEqual(texts(other.close("bob")), NO_FEES)

    def test_lists_of_names_are_new(self):
        self.keeper.names().clear()
        self.keeper.names().append("cid")
        self.assertEqual(self.keeper.names(), ["ann", "bob"])

    def test_twins_change_each_without_the_other(self):
        before = stands(self.keeper)
        for change in (lambda one: one.trade("a", 1), lambda one: one.lend("cid", 1, 2, 3), lambda one: one.grow("ann", 1),
                       lambda one: one.lessen("ann", 6), lambda one: one.collect("ann"), lambda one: one.close("ann")):
            other, third = self.keeper.twin(), self.keeper.twin()
            self.assertIs(type(other), Keeper)
            self.assertEqual(stands(other), before)
            change(other)
            self.assertNotEqual(stands(other), before)
            self.assertEqual((stands(self.keeper), stands(third)), (before, before))
        other = self.keeper.twin()
        self.keeper.trade("a", 1)
        self.keeper.close("bob")
        self.assertEqual(stands(other), before)


class Reckoned(unittest.TestCase):
    """Many deeds in a keeper and in a plain ledger."""

    def same(self, keeper, ledger):
        self.assertEqual(fraction(keeper.pool().root), ledger.root)
        self.assertEqual(keeper.names(), list(ledger.places))
        for name in keeper.names():
            self.assertEqual(tuple(fractions(keeper.position(name))), ledger.places[name])
            self.assertEqual(tuple(fractions(keeper.fees(name))), ledger.fees[name])
        self.assertEqual(tuple(fractions(keeper.holds())), ledger.holds())
        self.assertTrue(keeper.pool() == made_pool(ledger.given()))

    def changed(self, before, word, values, given):
        """What a keeper holds behind a deed, told from what it held, what was put in and what was given out."""
        a, b = before
        if word == "trade":
            good, amount = values
            taken, left = given
            return (a + amount - left, b - taken) if good == "a" else (a - taken, b + amount - left)
        sign = 1 if word in ("lend", "grow") else -1
        return a + sign * given[0], b + sign * given[1]

    def test_as_the_ledger_tells(self):
        chance = random.Random(40)
        words = {}
        for _ in range(60):
            root, fee = random_fraction(chance), chance.choice(FEES)
            keeper, ledger = Keeper(ratio(root), ratio(fee)), Ledger(root, fee)
            for _ in range(25):
                word, *values = random_keeper_deed(chance, keeper.names(), lambda name: ledger.places[name][2])
                words[word] = words.get(word, 0) + 1
                before = ledger.holds()
                wanted = getattr(ledger, word)(*values)
                given = getattr(keeper, word)(*[ratio(one) if isinstance(one, Fraction) else one for one in values])
                self.assertEqual(tuple(fractions(given)), wanted)
                self.assertEqual(tuple(fractions(keeper.holds())), self.changed(before, word, values, wanted))
                if chance.random() < 0.1:
                    keeper = keeper.twin()
            self.same(keeper, ledger)
            for name in keeper.names():
                keeper.close(name)
            self.assertEqual(texts(keeper.holds()), NO_FEES)
        self.assertTrue(all(words[word] > 20 for word in ("trade", "lend", "grow", "lessen", "collect", "close")))

    def test_many_positions_and_one_long_trade(self):
        chance = random.Random(41)
        for good in "ab" * 8:
            root = Fraction(1, 9) if good == "b" else Fraction(99)
            fee = chance.choice(FEES)
            keeper, ledger = Keeper(ratio(root), ratio(fee)), Ledger(root, fee)
            for name in "abcdefghijklmnop":
                low = Fraction(chance.randint(1, 9))
                values = low, low + chance.randint(1, 3), random_fraction(chance)
                keeper.lend(name, *map(ratio, values))
                ledger.lend(name, *values)
            for amount in (Fraction(7), Fraction(1, 3), Fraction(BIGGER)):
                self.assertEqual(tuple(fractions(keeper.trade(good, ratio(amount)))), ledger.trade(good, amount))
                self.same(keeper, ledger)

    def test_the_pool_tells_what_a_trade_gives(self):
        keeper = kept("ann 1 3 6", "bob 2 5 3", root=2, fee="1/10")
        self.assertTrue(keeper.pool() == Pool(profile("1 3 6", "2 5 3"), 2, Ratio(1, 10)))


if __name__ == "__main__":
    unittest.main()
