"""Promises [5], [15], [16] and [17]: pools, trades and their parts, and what can be put in and taken."""

import random
import unittest
from fractions import Fraction

from kit import (BELOW_0, BIG, BIGGER, FEES, MORE_THAN_ALL, NO_GOODS, NO_NUMBERS, Raises, Walk, amounts_for, fraction,
                 fractions, joints_of, made_pool, most_of, pool, profile, random_given, random_triples, ratio, rows,
                 texts)
from rangepools.errors import BadAmount, BadFee, BadGood, BadRoot
from rangepools.pools import Pool, most, needed, rate, steps, trade
from rangepools.profiles import Profile
from rangepools.ratios import Ratio

GAPPED = ["1 3 6", "4 5 2"]
NEARLY_1 = f"{BIGGER - 1}/{BIGGER}"

# Positions, root price, fee, good and amount; then the root price behind the trade, what is taken and given back.
TRADES = [
    # within a stretch, exactly to its end, across the gap, exactly everything, and more
    (GAPPED, "2", "1/10", "b", "0", ["2", "0", "0"]),
    (GAPPED, "2", "1/10", "b", "10/3", ["5/2", "3/5", "0"]),
    (GAPPED, "2", "1/10", "b", "20/3", ["3", "1", "0"]),
    (GAPPED, "2", "1/10", "b", "61/9", ["81/20", "163/162", "0"]),
    (GAPPED, "2", "1/10", "b", "80/9", ["5", "11/10", "0"]),
    (GAPPED, "2", "1/10", "b", "10", ["5", "11/10", "10/9"]),
    (GAPPED, "2", "1/10", "a", "0", ["2", "0", "0"]),
    (GAPPED, "2", "1/10", "a", "10/9", ["3/2", "3", "0"]),
    (GAPPED, "2", "1/10", "a", "10/3", ["1", "6", "0"]),
    (GAPPED, "2", "1/10", "a", "5", ["1", "6", "5/3"]),
    # the root price in a gap, and at its ends
    (GAPPED, "7/2", "0", "b", "1", ["9/2", "1/18", "0"]),
    (GAPPED, "7/2", "0", "a", "1", ["2", "6", "0"]),
    (GAPPED, "7/2", "0", "a", "0", ["7/2", "0", "0"]),
    (GAPPED, "7/2", "0", "b", "0", ["7/2", "0", "0"]),
    (GAPPED, "3", "0", "b", "1", ["9/2", "1/18", "0"]),
    (GAPPED, "3", "0", "b", "0", ["3", "0", "0"]),
    (GAPPED, "3", "0", "a", "1", ["2", "6", "0"]),
    (GAPPED, "4", "0", "a", "1", ["2", "6", "0"]),
    (GAPPED, "4", "0", "a", "0", ["4", "0", "0"]),
    (GAPPED, "4", "0", "b", "1", ["9/2", "1/18", "0"]),
    (GAPPED, "9/2", "0", "a", "1/18", ["4", "1", "0"]),
    (GAPPED, "9/2", "0", "a", "19/18", ["2", "7", "0"]),
    # below and above all positions, and at the least and the greatest end
    (GAPPED, "1/2", "0", "b", "6", ["2", "3", "0"]),
    (GAPPED, "1/2", "0", "b", "0", ["1/2", "0", "0"]),
    (GAPPED, "1/2", "0", "a", "5", ["1/2", "0", "5"]),
    (GAPPED, "1/2", "1/3", "a", "5", ["1/2", "0", "5"]),
    (GAPPED, "1", "0", "a", "1", ["1", "0", "1"]),
    (GAPPED, "1", "0", "b", "6", ["2", "3", "0"]),
    (GAPPED, "9", "0", "b", "5", ["9", "0", "5"]),
    (GAPPED, "9", "0", "a", "1/10", ["4", "2", "0"]),
    (GAPPED, "9", "0", "a", "0", ["9", "0", "0"]),
    (GAPPED, "5", "0", "b", "1", ["5", "0", "1"]),
    (GAPPED, "5", "0", "a", "1/20", ["40/9", "10/9", "0"]),
    # stretches of different sizes side by side
    (["1 2 6", "2 4 3"], "1", "0", "b", "8", ["8/3", "27/8", "0"]),
    (["1 2 6", "2 4 3"], "4", "0", "a", "7/4", ["3/2", "9", "0"]),
    (["1 4 3", "1 2 3"], "1", "1/2", "b", "16", ["8/3", "27/8", "0"]),
    # no positions, and fees just below 1
    ([], "2", "0", "b", "7", ["2", "0", "7"]),
    ([], "2", "1/2", "a", "7", ["2", "0", "7"]),
    ([], "2", "1/2", "a", "0", ["2", "0", "0"]),
    (["1 3 6"], "2", NEARLY_1, "b", str(6 * BIGGER), ["3", "1", "0"]),
    (["1 3 6"], "2", NEARLY_1, "b", str(8 * BIGGER), ["3", "1", str(2 * BIGGER)]),
    (["1 3 6"], "2", NEARLY_1, "a", str(BIGGER), ["3/2", "3", "0"]),
]

# Positions, root price, fee, good and amount; then the parts of the trade.
STEPS = [
    (GAPPED, "2", "1/10", "b", "0", []),
    (GAPPED, "2", "1/10", "b", "10/3", ["2 5/2 6 10/3 3/5"]),
    (GAPPED, "2", "1/10", "b", "20/3", ["2 3 6 20/3 1"]),
    (GAPPED, "2", "1/10", "b", "7", ["2 3 6 20/3 1", "4 83/20 2 1/3 3/166"]),
    (GAPPED, "2", "1/10", "b", "1000", ["2 3 6 20/3 1", "4 5 2 20/9 1/10"]),
    (GAPPED, "2", "1/10", "a", "10/9", ["2 3/2 6 10/9 3"]),
    (GAPPED, "2", "1/10", "a", "1000", ["2 1 6 10/3 6"]),
    (GAPPED, "9/2", "0", "a", "19/18", ["9/2 4 2 1/18 1", "3 2 6 1 6"]),
    (GAPPED, "9/2", "0", "a", "1/18", ["9/2 4 2 1/18 1"]),
    (GAPPED, "3", "0", "b", "1", ["4 9/2 2 1 1/18"]),
    (GAPPED, "3", "0", "b", "0", []),
    (GAPPED, "1/2", "0", "b", "6", ["1 2 6 6 3"]),
    (GAPPED, "1/2", "0", "a", "6", []),
    (GAPPED, "9", "0", "b", "6", []),
    (["1 2 6", "2 4 3"], "1", "0", "b", "8", ["1 2 6 6 3", "2 8/3 3 2 3/8"]),
    (["1 2 6", "2 4 6"], "1", "0", "b", "12", ["1 3 6 12 4"]),            # one stretch, although two positions
    (["1 3 6", "2 4 1"], "4", "0", "a", "1000", ["4 3 1 1/12 1", "3 2 7 7/6 7", "2 1 6 3 6"]),
    ([], "2", "0", "b", "7", []),
]


class Pools(unittest.TestCase, Raises):
    def test_properties(self):
        made = profile("1 3 6")
        for root, fee, wanted in [(2, 0, ["2", "0"]), (Ratio(4, 6), Ratio(1, 10), ["2/3", "1/10"]),
                                  (BIGGER, Ratio(BIGGER - 1, BIGGER), [str(BIGGER), NEARLY_1]),
                                  (Ratio(1, BIGGER), Ratio(0, 5), [f"1/{BIGGER}", "0"])]:
            with self.subTest(wanted=wanted):
                for found in (Pool(made, root, fee), Pool(fee=fee, root=root, profile=made)):
                    self.assertEqual(texts([found.root, found.fee]), wanted)
                    self.assertIs(type(found.profile), Profile)
                    self.assertTrue(found.profile == made)

    def test_properties_cannot_be_assigned(self):
        made = pool("1 3 6", root=2)
        for name in ("profile", "root", "fee"):
            with self.assertRaises(AttributeError):
                setattr(made, name, Ratio(0))
        self.assertTrue(made == pool("1 3 6", root=2))

    def test_bad_root(self):
        for value in NO_NUMBERS + [0, -1, Ratio(0, 3), Ratio(-1, BIGGER), -BIG]:
            with self.subTest(value=value):
                self.names(BadRoot, value, Pool, profile("1 3 6"), value, 0)
                self.names(BadRoot, value, Pool, fee=0, root=value, profile=Profile([]))

    def test_bad_fee(self):
        for value in NO_NUMBERS + [1, Ratio(2, 2), 2, -1, Ratio(-1, BIGGER), Ratio(BIGGER, BIGGER - 1), BIG]:
            with self.subTest(value=value):
                self.names(BadFee, value, Pool, profile("1 3 6"), 2, value)
                self.names(BadFee, value, Pool, fee=value, root=2, profile=Profile([]))

    def test_bad_root_comes_before_bad_fee(self):
        self.names(BadRoot, 0, Pool, Profile([]), 0, 1)
        self.names(BadRoot, "root", Pool, Profile([]), "root", "fee")
        self.names(BadFee, "fee", Pool, Profile([]), 1, "fee")

    def test_equality(self):
        one = pool("1 3 6", "4 5 2", root=2, fee="1/10")
        for other in (pool("1 3 6", "4 5 2", root=2, fee="1/10"), pool("4 5 2", "2 3 6", "1 2 6", root=2, fee="1/10"),
                      pool("1 3 2", "4 5 1", "1 3 4", "4 5 1", root=2, fee="1/10"),
                      Pool(profile(*GAPPED), Ratio(4, 2), Ratio(2, 20))):
            self.assertTrue(one == other and other == one)
            self.assertFalse(one != other)
        for other in (pool("1 3 6", "4 5 2", root=3, fee="1/10"), pool("1 3 6", "4 5 2", root=2, fee="1/11"),
                      pool("1 3 6", "4 5 3", root=2, fee="1/10"), pool("1 3 6", root=2, fee="1/10"),
                      pool(root=2, fee="1/10"), one.profile, 2, Ratio(2), "", None, (one.profile, one.root, one.fee)):
            self.assertFalse(one == other or other == one)
            self.assertTrue(one != other)
        self.assertFalse(pool(root=1) == pool(root=2))


class Trades(unittest.TestCase, Raises):
    def test_cases(self):
        for given, root, fee, good, amount, wanted in TRADES:
            with self.subTest(given, root=root, fee=fee, good=good, amount=amount):
                made = pool(*given, root=root, fee=fee)
                found = trade(made, good, Ratio.read(amount))
                self.assertIs(type(found), tuple)
                after, taken, left = found
                self.assertIs(type(after), Pool)
                self.assertEqual(texts([after.root, taken, left]), wanted)
                self.assertTrue(after.profile == made.profile and after.fee == made.fee)
                self.assertTrue(made == pool(*given, root=root, fee=fee))
                self.assertTrue(trade(amount=Ratio.read(amount), good=good, pool=made) == found)

    def test_as_the_walk_from_end_to_end(self):
        chance = random.Random(51)
        for _ in range(250):
            given = random_given(chance)
            made = made_pool(given)
            for good in "ab":
                for amount in amounts_for(chance, given, good):
                    wanted = Walk(*given, good, amount)
                    after, taken, left = trade(made, good, ratio(amount))
                    self.assertEqual(fractions([after.root, taken, left]), [wanted.root, wanted.taken, wanted.left])
                    self.assertTrue(after == Pool(made.profile, after.root, made.fee))

    def test_integers_as_amounts(self):
        for amount in (0, 1, 2, 7, 100, BIGGER):
            for good in "ab":
                made = pool(*GAPPED, root=2, fee="1/10")
                self.assertTrue(trade(made, good, amount) == trade(made, good, Ratio(amount)))

    def test_great_and_small_numbers(self):
        made = pool(f"1/{BIGGER} {BIGGER} {BIG}", root=1, fee=f"1/{BIG}")
        given = ([(Fraction(1, BIGGER), Fraction(BIGGER), Fraction(BIG))], Fraction(1), Fraction(1, BIG))
        for good in "ab":
            for amount in (Fraction(1, BIGGER), Fraction(BIG), Fraction(BIG, BIGGER), Fraction(BIGGER) ** 5):
                wanted = Walk(*given, good, amount)
                after, taken, left = trade(made, good, ratio(amount))
                self.assertEqual(fractions([after.root, taken, left]), [wanted.root, wanted.taken, wanted.left])

    def test_16_positions(self):
        triples = [(Fraction(at, 3), Fraction(at * at + 1, 2), Fraction(at)) for at in range(2, 18)]
        for root in (Fraction(1, 2), Fraction(10), Fraction(200)):
            given = (triples, root, Fraction(1, 3))
            for good in "ab":
                for amount in (Fraction(5), Fraction(100), MORE_THAN_ALL):
                    wanted = Walk(*given, good, amount)
                    after, taken, left = trade(made_pool(given), good, ratio(amount))
                    self.assertEqual(fractions([after.root, taken, left]), [wanted.root, wanted.taken, wanted.left])


class Steps(unittest.TestCase, Raises):
    def test_cases(self):
        for given, root, fee, good, amount, wanted in STEPS:
            with self.subTest(given, root=root, good=good, amount=amount):
                found = steps(pool(*given, root=root, fee=fee), good, Ratio.read(amount))
                self.assertIs(type(found), list)
                self.assertEqual(rows(found), [text.split(" ") for text in wanted])

    def test_as_the_walk_from_end_to_end(self):
        chance = random.Random(52)
        for _ in range(150):
            given = random_given(chance)
            for good in "ab":
                for amount in amounts_for(chance, given, good):
                    found = steps(made_pool(given), good, ratio(amount))
                    self.assertEqual([tuple(fractions(step)) for step in found], Walk(*given, good, amount).parts)

    def test_in_sum_they_are_the_trade(self):
        chance = random.Random(53)
        for _ in range(60):
            given = random_given(chance)
            for good in "ab":
                amount = chance.choice(amounts_for(chance, given, good))
                found = [fractions(step) for step in steps(made_pool(given), good, ratio(amount))]
                after, taken, left = trade(made_pool(given), good, ratio(amount))
                self.assertEqual(sum(step[3] for step in found), amount - fraction(left))
                self.assertEqual(sum(step[4] for step in found), fraction(taken))
                self.assertTrue(all(step[3] > 0 and step[4] > 0 and step[0] != step[1] for step in found))
                self.assertEqual(fraction(after.root), found[-1][1] if found else given[1])


class Most(unittest.TestCase):
    def test_cases(self):
        for given, root, fee, a, b in [
                (GAPPED, "2", "1/10", "10/3", "80/9"), (GAPPED, "7/2", "0", "4", "2"), (GAPPED, "3", "0", "4", "2"),
                (GAPPED, "4", "0", "4", "2"), (GAPPED, "1/2", "0", "0", "14"), (GAPPED, "1", "1/2", "0", "28"),
                (GAPPED, "9", "0", "41/10", "0"), (GAPPED, "5", "3/4", "82/5", "0"), ([], "2", "1/2", "0", "0"),
                (["1 3 6"], "2", NEARLY_1, str(3 * BIGGER), str(6 * BIGGER))]:
            with self.subTest(given, root=root, fee=fee):
                made = pool(*given, root=root, fee=fee)
                self.assertEqual(texts([most(made, "a"), most(made, "b"), most(good="b", pool=made)]), [a, b, b])

    def test_nothing_is_given_back_of_it_but_of_any_more(self):
        chance = random.Random(54)
        for _ in range(150):
            given = random_given(chance)
            made = made_pool(given)
            for good in "ab":
                greatest = most(made, good)
                self.assertEqual(fraction(greatest), most_of(given, good))
                self.assertEqual(trade(made, good, greatest)[2].text(), "0")
                self.assertEqual(trade(made, good, greatest + Ratio(1, BIGGER))[2].text(), f"1/{BIGGER}")


class Needed(unittest.TestCase):
    def test_cases(self):
        for given, root, fee, good, wished, wanted in [
                (GAPPED, "2", "1/10", "b", "0", "0"), (GAPPED, "2", "1/10", "b", "3/5", "10/3"),
                (GAPPED, "2", "1/10", "b", "1", "20/3"),                        # exactly what an end gives
                (GAPPED, "2", "1/10", "b", "163/162", "61/9"),
                (GAPPED, "2", "1/10", "b", "11/10", "80/9"),                    # exactly everything
                (GAPPED, "2", "1/10", "b", f"{11 * BIGGER + 10}/{10 * BIGGER}", None),
                (GAPPED, "2", "1/10", "b", "2", None),
                (GAPPED, "2", "1/10", "a", "6", "10/3"), (GAPPED, "2", "1/10", "a", "3", "10/9"),
                (GAPPED, "2", "1/10", "a", "7", None), (GAPPED, "9/2", "0", "a", "7", "19/18"),
                (GAPPED, "9/2", "0", "a", "1", "1/18"), (GAPPED, "7/2", "0", "b", "1/18", "1"),
                (GAPPED, "7/2", "0", "a", "6", "1"), (GAPPED, "9", "0", "b", "0", "0"),
                (GAPPED, "9", "0", "b", f"1/{BIGGER}", None), (GAPPED, "1/2", "0", "a", "1", None),
                ([], "2", "1/2", "a", "0", "0"), ([], "2", "1/2", "b", "1", None),
                (["1 3 6"], "2", NEARLY_1, "b", "1", str(6 * BIGGER))]:
            with self.subTest(given, root=root, good=good, wished=wished):
                made = pool(*given, root=root, fee=fee)
                for found in (needed(made, good, Ratio.read(wished)), needed(wished=Ratio.read(wished), good=good, pool=made)):
                    self.assertEqual(None if found is None else texts([found])[0], wanted)

    def test_integers_as_wished(self):
        made = pool(*GAPPED, root=2, fee="1/10")
        self.assertEqual(texts([needed(made, "a", 0), needed(made, "a", 6), needed(made, "b", 1)]), ["0", "10/3", "20/3"])

    def test_the_least_amount_for_which_so_much_is_taken(self):
        chance = random.Random(55)
        nothing = 0
        for _ in range(150):
            given = random_given(chance)
            made = made_pool(given)
            for good in "ab":
                all_taken = Walk(*given, good, MORE_THAN_ALL).taken
                ends = [Walk(*given, good, joint).taken for joint in joints_of(given, good)]
                for wished in ends + [all_taken * Fraction(chance.randint(1, 99), 100), Fraction(1, BIGGER)]:
                    if wished > all_taken:
                        nothing += 1
                        self.assertIsNone(needed(made, good, ratio(wished)))
                        continue
                    amount = fraction(needed(made, good, ratio(wished)))
                    self.assertEqual(Walk(*given, good, amount).taken, wished)
                    if wished > 0:
                        less = amount * (1 - Fraction(1, BIGGER))
                        self.assertLess(Walk(*given, good, less).taken, wished)
                    else:
                        self.assertEqual(amount, 0)
                self.assertIsNone(needed(made, good, ratio(all_taken + Fraction(1, BIGGER))))
        self.assertTrue(nothing > 20)


class Rates(unittest.TestCase):
    def test_cases(self):
        for given, root, fee, a, b in [
                (GAPPED, "2", "1/10", "18/5", "9/40"), (GAPPED, "2", "0", "4", "1/4"), (GAPPED, "7/2", "0", "9", "1/16"),
                (GAPPED, "3", "0", "9", "1/16"), (GAPPED, "4", "0", "9", "1/16"), (GAPPED, "9/2", "1/2", "81/8", "2/81"),
                (GAPPED, "1/2", "0", None, "1"), (GAPPED, "1", "0", None, "1"), (GAPPED, "9", "0", "25", None),
                (GAPPED, "5", "3/4", "25/4", None), ([], "2", "1/2", None, None),
                (["1 2 6", "2 4 3"], "2", "0", "4", "1/4"),
                (["1 3 6"], "2", NEARLY_1, f"4/{BIGGER}", f"1/{4 * BIGGER}")]:
            with self.subTest(given, root=root, fee=fee):
                made = pool(*given, root=root, fee=fee)
                for good, wanted in (("a", a), ("b", b)):
                    for found in (rate(made, good), rate(good=good, pool=made)):
                        self.assertEqual(None if found is None else texts([found])[0], wanted)

    def test_what_is_taken_for_a_very_small_amount(self):
        chance = random.Random(56)
        for _ in range(150):
            given = random_given(chance)
            made = made_pool(given)
            for good in "ab":
                found = rate(made, good)
                if most_of(given, good) == 0:
                    self.assertIsNone(found)
                    continue
                shares = [Walk(*given, good, Fraction(1, 10) ** zeros).taken * 10 ** zeros for zeros in (150, 200)]
                self.assertTrue(shares[0] < shares[1] < fraction(found))
                self.assertTrue(fraction(found) - shares[1] < fraction(found) * Fraction(1, 10) ** 100)


class Wrong(unittest.TestCase, Raises):
    def test_bad_good(self):
        for made in (pool(*GAPPED, root=2, fee="1/10"), pool(root=2)):
            for good in NO_GOODS:
                with self.subTest(good=good):
                    for ask in (trade, steps, needed):
                        self.names(BadGood, good, ask, made, good, 1)
                        self.names(BadGood, good, ask, made, good, 0)
                        self.names(BadGood, good, ask, made, good, -1)
                        self.names(BadGood, good, ask, made, good, None)
                    for ask in (most, rate):
                        self.names(BadGood, good, ask, made, good)
                        self.names(BadGood, good, ask, good=good, pool=made)

    def test_bad_amount(self):
        for made in (pool(*GAPPED, root=2, fee="1/10"), pool(root=2)):
            for amount in NO_NUMBERS + BELOW_0 + [Ratio(-1, BIGGER), -BIG]:
                with self.subTest(amount=amount):
                    for good in "ab":
                        for ask in (trade, steps, needed):
                            self.names(BadAmount, amount, ask, made, good, amount)
                        self.names(BadAmount, amount, trade, amount=amount, good=good, pool=made)
                        self.names(BadAmount, amount, needed, wished=amount, good=good, pool=made)

    def test_a_pool_stays_as_it_is(self):
        made = pool(*GAPPED, root=2, fee="1/10")
        for ask in (trade, steps, needed):
            ask(made, "b", 3)
            self.raised(BadAmount, ask, made, "b", -3)
        self.assertTrue(made == pool(*GAPPED, root=2, fee="1/10"))


class MainStatements(unittest.TestCase):
    """What [6] says of the trades in one pool."""

    def test_nobody_gains_by_any_row_of_trades(self):
        chance = random.Random(61)
        for _ in range(100):
            given = random_given(chance)
            made, have = made_pool(given), {"a": Fraction(0), "b": Fraction(0)}
            for _ in range(chance.randint(1, 6)):
                good, other = chance.choice(["ab", "ba"])
                amounts = [Fraction(chance.randint(0, 30), 7), most_of(given, good) / 2, max(have[good], Fraction(0))]
                amount = chance.choice(amounts)
                made, taken, left = trade(made, good, ratio(amount))
                have[good] += fraction(left) - amount
                have[other] += fraction(taken)
            self.assertFalse(min(have.values()) >= 0 and max(have.values()) > 0, have)

    def test_without_a_fee_all_comes_back(self):
        chance = random.Random(62)
        for _ in range(100):
            triples, root, _ = random_given(chance)
            made = made_pool((triples, root, Fraction(0)))
            for good, other in ("ab", "ba"):
                amount = ratio(most_of((triples, root, Fraction(0)), good) * Fraction(chance.randint(1, 10), 10))
                after, taken, _ = trade(made, good, amount)
                self.assertTrue(trade(after, other, taken)[1] == amount)

    def test_in_several_parts_as_at_once(self):
        chance = random.Random(63)
        for _ in range(150):
            given = random_given(chance)
            for good in "ab":
                amounts = [chance.choice(amounts_for(chance, given, good)) for _ in range(chance.randint(2, 4))]
                made, sums = made_pool(given), [Fraction(0), Fraction(0)]
                for amount in amounts:
                    made, taken, left = trade(made, good, ratio(amount))
                    sums = [sums[0] + fraction(taken), sums[1] + fraction(left)]
                after, taken, left = trade(made_pool(given), good, ratio(sum(amounts)))
                self.assertTrue(after == made)
                self.assertEqual(fractions([taken, left]), sums)

    def test_positions_cut_joined_and_in_another_order(self):
        chance = random.Random(64)
        for _ in range(60):
            triples = random_triples(chance)
            cut = [part for low, high, size in triples
                   for part in ((low, (low + high) / 2, size), ((low + high) / 2, high, size / 3),
                                ((low + high) / 2, high, size * 2 / 3))]
            chance.shuffle(cut)
            root, fee = Fraction(chance.randint(1, 9)), chance.choice(FEES)
            made, other = made_pool((triples, root, fee)), made_pool((cut, root, fee))
            self.assertTrue(made == other)
            for good in "ab":
                amount = ratio(Fraction(chance.randint(0, 20), 3))
                self.assertTrue(trade(made, good, amount) == trade(other, good, amount))
                self.assertTrue(steps(made, good, amount) == steps(other, good, amount))
                self.assertTrue(most(made, good) == most(other, good))


if __name__ == "__main__":
    unittest.main()
