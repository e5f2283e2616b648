"""Promises [48] to [52]: deeds in keepers, and whether their order plays a role."""

import random
import unittest
from fractions import Fraction

from kit import (BELOW_0, BIGGER, FEES, NO_GOODS, NO_NAMES, NO_NUMBERS, Ledger, Raises, fraction, fractions, random_fraction,
                 random_keeper_deed, ratio, texts)
from rangepools.deeds import (after_deeds, against_change, agree, always_change, change_in_sum, change_places, do_deed,
                              given_in_sum, in_one, same_direction)
from rangepools.errors import (BadAmount, BadDeed, BadGood, BadName, BadNumber, BadRange, BadSize, InUse, NoPosition,
                               PoolError)
from rangepools.keepers import Keeper
from rangepools.ratios import Ratio

NO_DEEDS = [None, True, False, 0, Ratio(1), "", "trade", "collect", [], {}, (), ["collect", "ann"], {"collect": "ann"}, ("collect",),
            ("trade",), ("trade", "a"), ("trade", "a", 1, 1), ("lend", "ann", 1, 3), ("lend", "ann", 1, 3, 6, 1), ("grow", "ann"),
            ("grow", "ann", 1, 1), ("lessen", "ann"), ("lessen", "ann", 1, 1), ("collect", "ann", 1), ("close",), ("close", "ann", 1),
            ("sell", "a"), ("twin",), ("fees", "ann"), ("Trade", "a", 1), ("", "a"), (None, "ann"), (1, "ann"), (["trade"], "a", 1),
            (Ratio(1), "a", 1), (("trade", "a", 1),), ("names",), (True, 1)]
# Deeds that raise an error in every keeper.
UNSOUND = ([("trade", good, 1) for good in NO_GOODS] + [("trade", "a", amount) for amount in NO_NUMBERS + BELOW_0]
           + [(word, name) for word in ("collect", "close") for name in NO_NAMES]
           + [(word, name, 1) for word in ("grow", "lessen") for name in NO_NAMES]
           + [(word, "ann", size) for word in ("grow", "lessen") for size in NO_NUMBERS + BELOW_0 + [0, Ratio(0)]]
           + [("lend", name, 1, 3, 6) for name in NO_NAMES] + [("lend", "ann", 1, 3, size) for size in NO_NUMBERS + BELOW_0 + [0]]
           + [("lend", "ann", low, 3, 6) for low in NO_NUMBERS + BELOW_0 + [0, 3, 4]] + [("lend", "ann", 1, None, 6)])
SOUND = [("trade", "a", 0), ("trade", "b", Ratio(0)), ("trade", "a", 1), ("trade", "b", 1), ("trade", "b", BIGGER),
         ("trade", "a", Ratio(1, BIGGER)), ("trade", "b", Ratio(1, BIGGER)), ("trade", "a", BIGGER),
         ("lend", "ann", 1, 4, 6), ("lend", "bob", 5, 6, 1), ("lend", "x", Ratio(1, BIGGER), Ratio(2, BIGGER), 1),
         ("lend", "y", BIGGER - 1, BIGGER, BIGGER), ("lend", "x", 1, 3, 1), ("lend", "ann", Ratio(1, 3), Ratio(1, 2), Ratio(1, BIGGER)),
         ("grow", "ann", 1), ("grow", "x", BIGGER), ("grow", "ann", Ratio(1, BIGGER)), ("lessen", "ann", 1), ("lessen", "x", BIGGER),
         ("lessen", "bob", Ratio(1, BIGGER)), ("collect", "ann"), ("collect", "x"), ("collect", "abcdefghijkl"), ("close", "ann"), ("close", "x")]


def first_keeper():
    return Keeper(2, Ratio(1, 10))


def kept():
    return after_deeds(first_keeper(), [("lend", "ann", 1, 4, 6), ("lend", "bob", 2, 5, 3), ("trade", "b", 10)])[0]


def stands(keeper):
    made = keeper.pool()
    return (made.root.text(), made.fee.text(), texts(keeper.holds()),
            [(name, texts(keeper.position(name)), texts(keeper.fees(name))) for name in keeper.names()])


def moves(deed):
    return deed[0] == "trade" and Ratio(0) < deed[2]


def order_matters(one, other):
    """Whether the main statement of [51] names two sound deeds."""
    if one[0] == other[0] == "collect":
        return one[1] == other[1]
    return any(moves(deed) and (moves(further) or further[0] != "trade") for deed, further in ((one, other), (other, one)))


class Done(unittest.TestCase, Raises):
    def test_what_deeds_give(self):
        keeper = first_keeper()
        for deed, wanted in [(("lend", "ann", 1, 4, 6), ["-3/2", "-6"]), (("trade", "b", 10), ["9/7", "-10"]),
                             (("grow", "ann", 7), ["-1/4", "-35/2"]), (("lessen", "ann", 7), ["1/4", "35/2"]),
                             (("collect", "ann"), ["0", "1"]), (("trade", "b", 20), ["3/14", "-10/3"]),
                             (("trade", "a", Ratio(0)), ["0", "0"]), (("trade", "a", 10), ["-5", "18"]),
                             (("close", "ann"), ["5", "1/3"])]:
            self.assertEqual(texts(do_deed(keeper, deed)), wanted, deed)
        self.assertEqual((keeper.names(), texts(keeper.holds())), ([], ["0", "0"]))
        self.assertEqual(texts(do_deed(deed=("lend", "ann", 2, 3, 4), keeper=keeper)), ["-2/3", "0"])

    def test_values_that_are_no_deeds(self):
        keeper = kept()
        before = stands(keeper)
        for value in NO_DEEDS:
            self.names(BadDeed, value, do_deed, keeper, value)
            self.names(BadDeed, value, after_deeds, keeper, [("collect", "ann"), value, None])
            for run in (lambda one, other: change_places(keeper, one, other), lambda one, other: change_in_sum(keeper, one, other),
                        always_change, against_change):
                self.names(BadDeed, value, run, value, None)
                self.names(BadDeed, value, run, ("collect", "ann"), value)
            self.names(BadDeed, value, in_one, [("trade", "a", 1), value, None])
            self.assertIs(same_direction(value, value), False)
        self.assertEqual(stands(keeper), before)

    def test_errors_of_the_keeper(self):
        keeper = kept()
        before = stands(keeper)
        for deed, error, value in [(("trade", "c", -1), BadGood, "c"), (("trade", "a", -1), BadAmount, -1), (("lend", "A", 1, 2, 3), BadName, "A"),
                                   (("lend", "ann", 0, 0, 0), InUse, "ann"), (("lend", "cid", 1, None, 3), BadNumber, None),
                                   (("lend", "cid", 1, 2, 0), BadSize, 0), (("grow", "cid", 0), NoPosition, "cid"), (("grow", "ann", 0), BadSize, 0),
                                   (("lessen", "ann", 7), BadSize, 7), (("collect", "cid"), NoPosition, "cid"), (("close", ["ann"]), NoPosition, ["ann"])]:
            self.names(error, value, do_deed, keeper, deed)
            self.names(error, value, after_deeds, keeper, [("collect", "ann"), deed, None])
            self.assertIs(change_places(keeper, deed, ("collect", "ann")), False)
            self.assertIs(change_in_sum(keeper, ("collect", "ann"), deed), False)
        self.raised(BadRange, do_deed, keeper, ("lend", "cid", 2, 2, 0))
        self.assertEqual(stands(keeper), before)

    def test_after_deeds(self):
        keeper, deeds = kept(), [("trade", "a", 1), ("close", "bob"), ("lend", "bob", 1, 2, 3)]
        before = stands(keeper)
        after, given = after_deeds(deeds=deeds, keeper=keeper)
        self.assertEqual((stands(keeper), deeds), (before, [("trade", "a", 1), ("close", "bob"), ("lend", "bob", 1, 2, 3)]))
        self.assertIs(type(after), Keeper)
        self.assertIs(type(given), list)
        self.assertEqual({type(pair) for pair in given}, {tuple})
        third, wanted = keeper.twin(), []
        for deed in deeds:
            wanted.append(do_deed(third, deed))
        self.assertTrue(agree(after, third) and given == wanted)
        given.clear()
        self.assertTrue(after_deeds(keeper, tuple(deeds))[1] == wanted)
        other, given = after_deeds(keeper, [])
        self.assertTrue(agree(other, keeper) and given == [] and other is not keeper)

    def test_given_in_sum(self):
        self.assertEqual(texts(given_in_sum([])), ["0", "0"])
        self.assertEqual(texts(given_in_sum(given=[(Ratio(1, 2), Ratio(3)), (Ratio(1, 3), Ratio(-5)), (1, 0)])), ["11/6", "-2"])
        self.assertIs(type(given_in_sum(())), tuple)


class Agreeing(unittest.TestCase):
    def test_the_order_of_openings_and_what_has_been_closed_play_no_role(self):
        opened = [("lend", "ann", 1, 4, 6), ("lend", "bob", 2, 5, 3)]
        one, other = after_deeds(first_keeper(), opened)[0], after_deeds(first_keeper(), opened[::-1])[0]
        self.assertNotEqual(one.names(), other.names())
        third = after_deeds(first_keeper(), [("lend", "cid", 1, 9, 6)] + opened + [("trade", "b", 0), ("close", "cid")])[0]
        self.assertTrue(agree(one, other) and agree(third, one) and agree(other=one, one=one.twin()))

    def test_keepers_that_do_not_agree(self):
        keeper = kept()
        self.assertIs(agree(keeper, kept()), True)
        for deeds in ([("trade", "a", 1)], [("grow", "ann", 1)], [("collect", "ann")], [("close", "bob")], [("lend", "cid", 9, 10, 1)],
                      [("close", "bob"), ("lend", "cid", 2, 5, 3)], [("lessen", "bob", 3)]):
            self.assertIs(agree(keeper, after_deeds(keeper, deeds)[0]), False)
            self.assertIs(agree(after_deeds(keeper, deeds)[0], keeper), False)
        self.assertFalse(agree(Keeper(2, 0), first_keeper()) or agree(Keeper(2, 0), Keeper(3, 0)))
        # The same profile, but another position.
        one = after_deeds(first_keeper(), [("lend", "ann", 3, 4, 6), ("lend", "bob", 4, 5, 6)])[0]
        other = after_deeds(first_keeper(), [("lend", "ann", 4, 5, 6), ("lend", "bob", 3, 4, 6)])[0]
        self.assertTrue(one.pool() == other.pool() and not agree(one, other))
        # A position of the size 0 is one, too.
        self.assertFalse(agree(first_keeper(), after_deeds(first_keeper(), [("lend", "ann", 3, 4, 6), ("lessen", "ann", 6)])[0]))


class Places(unittest.TestCase, Raises):
    def both(self, keeper, one, other):
        """Whether two deeds can change places, and in sum, asked in both orders, with nothing changed."""
        before = stands(keeper)
        found = change_places(keeper, one, other), change_in_sum(keeper, one, other)
        self.assertEqual((change_places(other=one, one=other, keeper=keeper), change_in_sum(other=one, one=other, keeper=keeper)), found)
        self.assertEqual(stands(keeper), before)
        return found

    def test_deeds_that_can_and_that_cannot(self):
        keeper = kept()
        for one, other, wanted in [
                (("trade", "a", 0), ("grow", "ann", 1), (True, True)), (("trade", "a", 1), ("trade", "b", 1), (False, False)),
                (("trade", "a", 1), ("trade", "a", 2), (False, True)), (("trade", "a", 1), ("trade", "a", 1), (False, True)),
                (("trade", "a", 1), ("trade", "b", 0), (True, True)), (("grow", "ann", 1), ("lessen", "ann", 6), (True, True)),
                (("grow", "ann", 1), ("lessen", "ann", 7), (False, False)), (("lessen", "ann", 3), ("lessen", "ann", 3), (True, True)),
                (("lessen", "ann", 3), ("lessen", "ann", 4), (False, False)), (("collect", "ann"), ("collect", "bob"), (True, True)),
                (("collect", "ann"), ("collect", "ann"), (False, True)), (("collect", "ann"), ("close", "ann"), (False, False)),
                (("collect", "ann"), ("grow", "ann", 1), (True, True)), (("close", "ann"), ("close", "bob"), (True, True)),
                (("close", "ann"), ("close", "ann"), (False, False)), (("close", "ann"), ("lend", "ann", 1, 2, 3), (False, False)),
                (("lend", "cid", 1, 2, 3), ("lend", "dot", 1, 2, 3), (True, True)), (("lend", "cid", 1, 2, 3), ("lend", "cid", 1, 2, 3), (False, False)),
                (("lend", "cid", 1, 3, 3), ("trade", "a", 1), (False, False)), (("lend", "cid", 1, 2, 3), ("close", "ann"), (True, True)),
                (("trade", "a", 1), ("collect", "ann"), (False, False)), (("trade", "a", 1), ("close", "ann"), (False, False))]:
            self.assertEqual(self.both(keeper, one, other), wanted, (one, other))

    def test_where_the_order_happens_to_play_no_role(self):
        # Nothing can be put in; fees that are 0; a position far away from the trade.
        self.assertEqual(self.both(first_keeper(), ("trade", "a", 1), ("trade", "b", 1)), (True, True))
        keeper = after_deeds(Keeper(2, 0), [("lend", "ann", 1, 4, 6), ("trade", "b", 1)])[0]
        self.assertEqual(self.both(keeper, ("collect", "ann"), ("collect", "ann")), (True, True))
        self.assertEqual(self.both(keeper, ("trade", "b", 1), ("collect", "ann")), (True, True))
        self.assertEqual(self.both(keeper, ("trade", "b", 1), ("lend", "bob", 8, 9, 1)), (True, True))
        self.assertEqual(self.both(keeper, ("trade", "b", 99), ("trade", "a", 99)), (False, False))

    def test_what_each_gives_is_told_by_its_own_place(self):
        # Both orders give the same two tuples, but the first one each time.
        keeper = kept()
        self.assertEqual(self.both(keeper, ("trade", "b", 1), ("trade", "b", 1)), (False, True))


class Always(unittest.TestCase, Raises):
    def test_the_main_statement(self):
        for one in SOUND:
            for other in SOUND:
                wanted = not order_matters(one, other)
                self.assertIs(always_change(one, other), wanted, (one, other))
                deeds = against_change(one, other)
                self.assertIs(deeds is None, wanted)
                if deeds is None:
                    continue
                self.assertIs(type(deeds), list)
                keeper, _ = after_deeds(first_keeper(), deeds)
                for order in ([one, other], [other, one]):
                    after_deeds(keeper, order)                          # raises no error
                self.assertIs(change_places(keeper, one, other), False, (one, other, deeds))

    def test_numbers_in_deeds_are_ratios(self):
        for one, other in [(("trade", "a", 1), ("lend", "x", 5, 6, 1)), (("lessen", "ann", 7), ("trade", "b", 1)), (("collect", "ann"),) * 2,
                           (("trade", "a", 1), ("trade", "b", 1)), (("trade", "a", 1), ("grow", "ann", 1))]:
            for _, _, *values in against_change(other=other, one=one):
                for value in values:
                    self.assertIs(type(value), Ratio)
            against_change(one, other).clear()
            self.assertTrue(against_change(one, other))

    def test_deeds_that_are_not_sound(self):
        for deed in UNSOUND:
            for run in (always_change, against_change):
                self.names(BadDeed, deed, run, deed, None)
                self.names(BadDeed, deed, run, ("trade", "a", 1), deed)
            self.assertRaises(PoolError, do_deed, kept(), deed)

    def test_all_other_deeds_change_places_in_every_keeper(self):
        # In many keepers: if neither order raises an error, always_change is never wrong.
        chance = random.Random(51)
        changed = 0
        for _ in range(60):
            keeper, _ = random_history(chance, 10)
            for _ in range(12):
                one, other = [as_deed(random_keeper_deed(chance, keeper.names(), lambda name: fraction(keeper.position(name)[2])))
                              for _ in "ab"]
                try:
                    for order in ([one, other], [other, one]):
                        after_deeds(keeper, order)
                except PoolError:
                    self.assertFalse(change_places(keeper, one, other) or change_in_sum(keeper, one, other))
                    continue
                if always_change(one, other):
                    self.assertTrue(change_places(keeper, one, other), (one, other))
                    changed += 1
                if same_direction(one, other):
                    self.assertTrue(change_in_sum(keeper, one, other))
        self.assertGreater(changed, 100)


class InOne(unittest.TestCase, Raises):
    def test_same_direction(self):
        for one, other, wanted in [(("trade", "a", 1), ("trade", "a", 2), True), (("trade", "a", 1), ("trade", "b", 1), False),
                                   (("trade", "b", 0), ("trade", "b", 9), True), (("grow", "a", 1), ("grow", "a", 1), False),
                                   (("collect", "a"), ("collect", "a"), False), (("trade", "a", 1), ("grow", "a", 1), False),
                                   (("trade", "a", 1), ("trade", "a"), False), (("trade", "a", 1), None, False)]:
            self.assertIs(same_direction(one, other), wanted)
            self.assertIs(same_direction(other=one, one=other), wanted)

    def test_runs(self):
        a, b, far = ("trade", "a", 1), ("trade", "b", Ratio(1, 2)), ("collect", "ann")
        for deeds, wanted in [([], []), ([a], [a]), ([far], [far]), ([a, a], [("trade", "a", 2)]), ([a, a, a, far, a], [("trade", "a", 3), far, a]),
                              ([b, a, a, b, b], [b, ("trade", "a", 2), ("trade", "b", 1)]), ([far, b, b, b], [far, ("trade", "b", Ratio(3, 2))]),
                              ([a, b, a], [a, b, a]), ([("trade", "a", 0), a], [a]), ([("trade", "a", 0)], [("trade", "a", 0)]),
                              ([far, far, ("lend", "bob", None, 0, {}), far], [far, far, ("lend", "bob", None, 0, {}), far])]:
            found = in_one(deeds)
            self.assertEqual(found, wanted)
            self.assertIs(type(found), list)
            self.assertEqual(in_one(deeds=tuple(deeds)), wanted)
            for deed in found:
                self.assertIs(type(deed), tuple)
                if deed[0] == "trade":
                    self.assertIs(type(deed[2]), Ratio)
            found.append(None)
        deeds = [a, a]
        in_one(deeds).clear()
        self.assertEqual(deeds, [a, a])

    def test_the_first_wrong_value_counts(self):
        for good in NO_GOODS:
            self.names(BadDeed, ("trade", good, 1), in_one, [("trade", "a", 1), ("trade", good, 1), None])
        for amount in NO_NUMBERS + BELOW_0:
            self.names(BadDeed, ("trade", "a", amount), in_one, [("trade", "a", 1), ("trade", "a", amount), None])
        for deeds in ([("grow", "A", -1)], [("close", None)]):
            self.assertEqual(in_one(deeds), deeds)

    def test_what_all_give_and_the_keeper_are_the_same(self):
        chance = random.Random(52)
        for _ in range(60):
            keeper, _ = random_history(chance, 6)
            deeds = [("trade", chance.choice("aab"), ratio(random_fraction(chance))) for _ in range(6)]
            deeds.insert(chance.randrange(7), ("lend", "zoe", 1, 3, 2))
            after, given = after_deeds(keeper, deeds)
            other, fewer = after_deeds(keeper, in_one(deeds))
            self.assertTrue(agree(after, other) and given_in_sum(given) == given_in_sum(fewer))
            self.assertLess(len(fewer), len(given) + 1)


def as_deed(values):
    """A deed in fractions as one in Ratios."""
    return tuple(ratio(value) if isinstance(value, Fraction) else value for value in values)


def random_history(chance, many):
    """Some keeper behind deeds, and a ledger that stands the same."""
    root, fee = random_fraction(chance), chance.choice(FEES)
    keeper, ledger = Keeper(ratio(root), ratio(fee)), Ledger(root, fee)
    for _ in range(many):
        word, *values = random_keeper_deed(chance, keeper.names(), lambda name: ledger.places[name][2])
        do_deed(keeper, as_deed((word, *values)))
        getattr(ledger, word)(*values)
    return keeper, ledger


class Reckoned(unittest.TestCase):
    """Many deeds, once more in a plain ledger."""

    def gives(self, ledger, word, values):
        found = getattr(ledger, word)(*values)
        if word == "trade":
            good, amount = values
            return (found[1] - amount, found[0]) if good == "a" else (found[0], found[1] - amount)
        return tuple(-number for number in found) if word in ("lend", "grow") else found

    def test_rows_of_deeds(self):
        chance = random.Random(48)
        for _ in range(60):
            keeper, ledger = random_history(chance, 5)
            twin, deeds, wanted = ledger.twin(), [], []
            for _ in range(8):
                word, *values = random_keeper_deed(chance, list(twin.places), lambda name: twin.places[name][2])
                deeds.append(as_deed((word, *values)))
                wanted.append(self.gives(twin, word, values))
            after, given = after_deeds(keeper, deeds)
            self.assertEqual([tuple(fractions(pair)) for pair in given], wanted)
            self.assertEqual(tuple(fractions(after.holds())), twin.holds())
            self.assertEqual({name: tuple(fractions(after.fees(name))) for name in after.names()}, twin.fees)
            self.assertEqual(tuple(fractions(keeper.holds())), ledger.holds())
            a, b = fractions(given_in_sum(given))
            self.assertEqual((ledger.holds()[0] - a, ledger.holds()[1] - b), twin.holds())


if __name__ == "__main__":
    unittest.main()
