"""Promises [6] and [18]: trades to a root price, pools that act alike, and rows of trades that part pools."""

import random
import unittest
from fractions import Fraction

from kit import (BIG, BIGGER, FEES, NO_NUMBERS, Raises, Walk, amounts_for, ends_of, fraction, fractions, given_by,
                 made_pool, most_of, pool, random_fraction, random_given, ratio, size_at, size_below, texts)
from rangepools.errors import BadRoot, NoWay
from rangepools.pools import alike, most, parting, rate, to_root, trade
from rangepools.ratios import Ratio

GAPPED = ["1 3 6", "4 5 2"]
NEARLY_1 = f"{BIGGER - 1}/{BIGGER}"

# Positions, root price, fee and the root price that is asked for; then good, amount and what is taken.
WAYS = [
    (GAPPED, "2", "1/10", "2", ["b", "0", "0"]),                # there already
    (GAPPED, "7/2", "1/10", "7/2", ["b", "0", "0"]),            # in a gap
    (GAPPED, "9", "1/10", "9", ["b", "0", "0"]),                # above all
    ([], "2", "1/10", "2", ["b", "0", "0"]),
    (GAPPED, "2", "1/10", "5/2", ["b", "10/3", "3/5"]),
    (GAPPED, "2", "1/10", "3", ["b", "20/3", "1"]),             # where the gap begins
    (GAPPED, "2", "1/10", "81/20", ["b", "61/9", "163/162"]),   # across the gap
    (GAPPED, "2", "1/10", "5", ["b", "80/9", "11/10"]),         # the greatest end
    (GAPPED, "2", "1/10", "3/2", ["a", "10/9", "3"]),
    (GAPPED, "2", "1/10", "1", ["a", "10/3", "6"]),             # the least end
    (GAPPED, "7/2", "0", "9/2", ["b", "1", "1/18"]),
    (GAPPED, "7/2", "0", "2", ["a", "1", "6"]),
    (GAPPED, "9/2", "0", "4", ["a", "1/18", "1"]),              # where the gap begins on the way down
    (GAPPED, "9/2", "0", "2", ["a", "19/18", "7"]),
    (GAPPED, "1/2", "0", "2", ["b", "6", "3"]),
    (GAPPED, "9", "0", "4", ["a", "1/10", "2"]),
    (["1 2 6", "2 4 3"], "1", "0", "8/3", ["b", "8", "27/8"]),
    (["1 2 6", "2 4 3"], "4", "0", "3/2", ["a", "7/4", "9"]),
    (["1 2 6", "2 4 3"], "4", "0", "2", ["a", "3/4", "6"]),
    (["1 3 6"], "2", NEARLY_1, "3", ["b", str(6 * BIGGER), "1"]),
]
# Positions, root price, and root prices that no trade reaches.
NO_WAYS = [
    (GAPPED, "2", ["6", "501/100", "1/2", "99/100", "7/2", "301/100", "4"]),
    (GAPPED, "1", ["1/2", "4", "6"]),
    (GAPPED, "9/2", ["3", "7/2", "401/100000", "6", "1/2"]),
    (GAPPED, "7/2", ["3", "4", "13/4", "15/4", "6", "1/2"]),            # the gap's ends, from within the gap
    (GAPPED, "3", ["4", "7/2", "6", "1/2"]),
    (GAPPED, "4", ["3", "7/2", "6", "1/2"]),
    (GAPPED, "1/2", ["1/3", "3/4", "1", "7/2", "4", "6"]),
    (GAPPED, "9", ["10", "6", "5", "7/2", "3", "1/2"]),
    (GAPPED, "5", ["6", "9", "3", "1/2"]),
    ([], "2", ["1", "3", "1/2"]),
]


class ToRoot(unittest.TestCase, Raises):
    def test_cases(self):
        for given, root, fee, wanted, found in WAYS:
            with self.subTest(given, root=root, to=wanted):
                made = pool(*given, root=root, fee=fee)
                way = to_root(made, Ratio.read(wanted))
                self.assertIs(type(way), tuple)
                self.assertEqual([way[0], *texts(way[1:])], found)
                self.assertTrue(to_root(root=Ratio.read(wanted), pool=made) == way)
                self.assertEqual(trade(made, way[0], way[1])[0].root.text(), wanted)

    def test_integers_as_root_prices(self):
        made = pool(*GAPPED, root=2, fee="1/10")
        self.assertTrue(to_root(made, 5) == to_root(made, Ratio(5)) and to_root(made, 1) == to_root(made, Ratio(1)))

    def test_no_way(self):
        for given, root, ways in NO_WAYS:
            for wanted in ways:
                with self.subTest(given, root=root, to=wanted):
                    made = pool(*given, root=root, fee="1/10")
                    self.names(NoWay, Ratio.read(wanted), to_root, made, Ratio.read(wanted))
                    self.names(NoWay, Ratio.read(wanted), to_root, root=Ratio.read(wanted), pool=made)
        asked = Ratio(6)
        self.assertIs(self.raised(NoWay, to_root, pool(*GAPPED, root=2), asked).given, asked)
        self.assertIs(type(self.raised(NoWay, to_root, pool(*GAPPED, root=2), 6).given), int)

    def test_bad_root(self):
        for made in (pool(*GAPPED, root=2), pool(root=2)):
            for value in NO_NUMBERS + [0, -1, Ratio(-1, 2), -BIG]:
                with self.subTest(value=value):
                    self.names(BadRoot, value, to_root, made, value)
                    self.names(BadRoot, value, to_root, root=value, pool=made)

    def test_the_least_amount_that_leads_there(self):
        chance = random.Random(71)
        ways = none = 0
        for _ in range(300):
            given = random_given(chance)
            triples, root, _ = given
            made = made_pool(given)
            wanted = chance.choice([random_fraction(chance), *ends_of(triples), Fraction(50), Fraction(1, 20)])
            if wanted == root:
                self.assertEqual(to_root(made, ratio(wanted)), ("b", 0, 0))
                continue
            # The root price comes to rest where there was a size just before it.
            size = size_below(triples, wanted) if wanted > root else size_at(triples, wanted)
            if size == 0:
                none += 1
                self.names(NoWay, ratio(wanted), to_root, made, ratio(wanted))
                continue
            ways += 1
            good, amount, taken = to_root(made, ratio(wanted))
            self.assertEqual(good, "b" if wanted > root else "a")
            walk = Walk(*given, good, fraction(amount))
            self.assertEqual([walk.root, walk.taken, walk.left], [wanted, fraction(taken), 0])
            less = Walk(*given, good, fraction(amount) * (1 - Fraction(1, BIGGER)))
            self.assertNotEqual(less.root, wanted)
        self.assertTrue(ways > 50 and none > 50)


# Positions, root price and fee of two pools that act alike.
ALIKE = [
    ((GAPPED, "2", "1/10"), (GAPPED, "2", "1/10")),
    ((GAPPED, "7/2", "1/10"), (GAPPED, "15/4", "1/10")),                    # both in one gap
    ((GAPPED, "3", "1/10"), (GAPPED, "4", "1/10")),                         # at both ends of a gap
    ((GAPPED, "3", "0"), (GAPPED, "7/2", "0")),
    ((GAPPED, "1/2", "0"), (GAPPED, "1", "0")),                             # below all
    ((GAPPED, f"1/{BIGGER}", "0"), (GAPPED, "1", "0")),
    ((GAPPED, "5", "0"), (GAPPED, str(BIGGER), "0")),                       # above all
    ((["1 2 6", "2 3 6"], "2", "0"), (["1 3 6"], "2", "0")),                # cut
    ((["1 3 6", "2 4 1"], "7/2", "0"), (["2 4 1", "1 3 6"], "7/2", "0")),   # in another order
    ((["1 3 6", "1 3 1"], "2", "0"), (["1 3 7"], "2", "0")),                # joined
    (([], "2", "0"), ([], "2", "0")), (([], "2", "0"), ([], "3", "0")),     # without any size
    (([], "2", "0"), ([], "2", "1/2")), (([], "2", "1/3"), ([], "5", NEARLY_1)),
]

# Positions, root price and fee of two pools that do not, though they do so nearly.
UNLIKE = [
    ((GAPPED, "2", "1/10"), (GAPPED, "2", "0")),                            # the fee
    ((GAPPED, "2", NEARLY_1), (GAPPED, "2", f"{BIGGER - 2}/{BIGGER}")),
    ((GAPPED, "7/2", "1/10"), (GAPPED, "7/2", "0")),
    ((GAPPED, "9", "1/10"), (GAPPED, "9", "0")),
    ((GAPPED, "1/2", "1/10"), (GAPPED, "1/2", "0")),
    ((GAPPED, "2", "0"), (GAPPED, "2000001/1000000", "0")),                 # the root price, with a size between
    ((GAPPED, "2", "0"), (GAPPED, "7/2", "0")),
    ((GAPPED, "299/100", "0"), (GAPPED, "7/2", "0")),
    ((GAPPED, "401/100", "0"), (GAPPED, "7/2", "0")),
    ((GAPPED, "2", "0"), (GAPPED, "9/2", "0")),
    ((GAPPED, "1/2", "0"), (GAPPED, "9", "0")),                             # below and above all
    ((GAPPED, "1/2", "0"), (GAPPED, "7/2", "0")),
    ((GAPPED, "7/2", "0"), (GAPPED, "9", "0")),
    ((["1 2 1", "3 4 1", "5 6 1"], "5/2", "0"), (["1 2 1", "3 4 1", "5 6 1"], "9/2", "0")),     # different gaps
    ((GAPPED, "2", "0"), (["1 3 6"], "2", "0")),                            # the profile
    ((GAPPED, "2", "0"), (["1 3 6", "4 5 3"], "2", "0")),
    ((GAPPED, "2", "0"), (["1 3 6", "4 6 2"], "2", "0")),
    ((GAPPED, "2", "0"), (["1 3 6", f"{4 * BIGGER + 1}/{BIGGER} 5 2"], "2", "0")),
    ((["1 3 6"], "2", "0"), (["1/2 3 6"], "2", "0")),                       # further down
    ((["1 3 6"], "2", "0"), (["1 3 6", "1/3 1/2 1"], "2", "0")),
    ((["1 3 6"], "2", "0"), (["1 3 6", f"1 2 1/{BIGGER}"], "2", "0")),
    ((["1 3 6"], "1/2", "0"), (["1 4 6"], "1/2", "0")),
    ((["1 3 6"], "5", "0"), (["1 4 6"], "5", "0")),
    ((["1 3 6"], "1", "0"), (["1/2 1 6"], "1", "0")),                       # only up, and only down
    (([], "2", "0"), (["1 3 6"], "2", "0")),                                # only one has any size
    ((["1 3 6"], "5", "0"), ([], "2", "1/2")),
    ((["1 3 6"], "1/5", "0"), ([], "1/5", "0")),
]

# Positions, root price and fee of two pools that do the same in every single trade, but not in every row of two.
UNLIKE_IN_ROWS = [
    ((["1 2 6"], "1", "0"), (["1/2 1 3"], "1/2", "3/4")),                   # only the good b can be put in
    ((["1 2 6"], "1/3", "0"), (["1/2 1 3"], "1/2", "3/4")),
    ((["1 2 6"], "2", "0"), (["2 4 3"], "4", "3/4")),                       # only the good a can be put in
    ((["1 2 6"], "9", "0"), (["2 4 3"], "5", "3/4")),
    ((["1 2 4", "4 8 8"], "3", "3/4"), (["1/2 1 8", "8 16 16"], "3", "0")), # both, out of a gap
    ((["1 2 4", "4 8 8"], "2", "3/4"), (["1/2 1 8", "8 16 16"], "8", "0")),
    ((["1 2 6", "2 3 1", "7 8 2"], "1", "5/9"), (["3/2 3 9", "3 9/2 3/2", "21/2 12 3"], "1", "0")),
]


def pools_of(texts_of_both):
    return [pool(*given, root=root, fee=fee) for given, root, fee in texts_of_both]


class Alike(unittest.TestCase, Raises):
    def ask(self, one, other):
        """Whether two pools act alike, asked in all ways."""
        found = alike(one, other)
        self.assertIs(type(found), bool)
        self.assertIs(alike(other=one, one=other), found)
        self.assertTrue(alike(one, one) and alike(other, other))
        self.assertIs(parting(one, other) is None, found)
        self.assertIs(parting(other=one, one=other) is None, found)
        return found

    def outcomes(self, made, row):
        """What is taken and given back in each trade of a row."""
        given, found = given_by(made), []
        for good, amount in row:
            walk = Walk(*given, good, amount)
            after, taken, left = trade(made, good, ratio(amount))
            self.assertEqual(fractions([taken, left, after.root]), [walk.taken, walk.left, walk.root])
            found.append((walk.taken, walk.left))
            given, made = (given[0], walk.root, given[2]), after
        return found

    def parts(self, one, other):
        """The row of trades that parts two pools, behind which they differ in the last trade alone."""
        row = parting(one, other)
        self.assertIs(type(row), list)
        self.assertTrue(1 <= len(row) <= 2)
        for step in row:
            self.assertIs(type(step), tuple)
            self.assertIn(step[0], ("a", "b"))
        row = [(good, fraction(amount)) for good, amount in row]
        self.assertTrue(all(amount >= 0 for _, amount in row))
        found, others = self.outcomes(one, row), self.outcomes(other, row)
        self.assertEqual(found[:-1], others[:-1])
        self.assertNotEqual(found[-1], others[-1])
        return row

    def test_pools_that_act_alike(self):
        chance = random.Random(72)
        for both in ALIKE:
            with self.subTest(both):
                one, other = pools_of(both)
                self.assertTrue(self.ask(one, other))
                self.assertIsNone(parting(one, other))
                for _ in range(10):
                    row = [(chance.choice("ab"), Fraction(chance.randint(0, 12), 4)) for _ in range(4)]
                    self.assertEqual(self.outcomes(one, row), self.outcomes(other, row))

    def test_pools_that_do_not(self):
        for both in UNLIKE:
            with self.subTest(both):
                one, other = pools_of(both)
                self.assertFalse(self.ask(one, other))
                self.parts(one, other)
                self.parts(other, one)

    def test_pools_whose_single_trades_are_alike_but_not_their_rows_of_two(self):
        chance = random.Random(73)
        for both in UNLIKE_IN_ROWS:
            with self.subTest(both):
                one, other = pools_of(both)
                for good in "ab":
                    for amount in amounts_for(chance, given_by(one), good):
                        self.assertEqual(self.outcomes(one, [(good, amount)]), self.outcomes(other, [(good, amount)]))
                    self.assertTrue(most(one, good) == most(other, good) and rate(one, good) == rate(other, good))
                self.assertFalse(self.ask(one, other))
                for row in (self.parts(one, other), self.parts(other, one)):
                    self.assertEqual(len(row), 2)

    def test_pools_that_take_the_same_again_where_a_stretch_ends(self):
        # The amounts 12, 10 and 70 do not part these pools, although stretches of both end there.
        for one, other, amount, taken in [
                (pool("1 3 6", root=1), pool("4/3 2 72/5", "2 3 12/5", root="4/3"), 12, "4"),
                (pool("2 7 2", root=2), pool("3 14/3 6", root=3), 10, "5/7"),
                (pool("1 2 60", "2 7 2", root=1), pool("1 2 60", "3 14/3 6", root=1), 70, "215/7")]:
            with self.subTest(amount=amount):
                self.assertEqual(texts([trade(one, "b", amount)[1], trade(other, "b", amount)[1]]), [taken, taken])
                self.assertEqual(texts([most(one, "b"), most(other, "b")]), [str(amount)] * 2)
                for row in (self.parts(one, other), self.parts(other, one)):
                    self.assertEqual([good for good, _ in row], ["b"])

    def nearly(self, chance, given):
        """What is the same as given but for one part, and sometimes altogether."""
        triples, root, fee = given
        low, high, size = chance.choice(triples) if triples else (Fraction(1), Fraction(2), Fraction(1))
        return chance.choice([
            given, (triples, random_fraction(chance), fee), (triples, root, chance.choice(FEES)),
            (triples + [(low, high, size)], root, fee), (triples + [(high, high + 1, size)], root, fee),
            (triples[1:], root, fee), ([], root, fee), (triples[::-1], root + Fraction(1, 3), fee)])

    def test_all_pools_that_do_not_act_alike_are_parted(self):
        chance = random.Random(74)
        same = parted = 0
        for _ in range(300):
            given = random_given(chance)
            one, other = made_pool(given), made_pool(self.nearly(chance, given))
            if self.ask(one, other):
                same += 1
                row = [(chance.choice("ab"), Fraction(chance.randint(0, 12), 4)) for _ in range(4)]
                self.assertEqual(self.outcomes(one, row), self.outcomes(other, row))
            else:
                parted += 1
                self.parts(one, other)
        self.assertTrue(same > 50 and parted > 100)

    def test_as_the_main_statement_says(self):
        chance = random.Random(75)
        for _ in range(200):
            given = random_given(chance)
            near = self.nearly(chance, given)
            (triples, root, fee), (others, other_root, other_fee) = given, near
            if not triples and not others:
                wanted = True
            else:
                cuts = sorted({root, other_root, *ends_of(triples)})
                between = [cut for cut in cuts if min(root, other_root) <= cut < max(root, other_root)]
                grid = {end for one in triples + others for end in one[:2]}
                wanted = (fee == other_fee and all(size_at(triples, end) == size_at(others, end) for end in grid)
                          and all(size_at(triples, cut) == 0 for cut in between))
            self.assertIs(alike(made_pool(given), made_pool(near)), wanted)

    def test_a_pool_and_itself_behind_a_trade(self):
        chance = random.Random(76)
        for _ in range(100):
            given = random_given(chance)
            made = made_pool(given)
            for good in "ab":
                moved = trade(made, good, ratio(Fraction(1, 9)))[0]
                self.assertIs(self.ask(made, moved), most_of(given, good) == 0)
                if most_of(given, good) > 0:
                    self.parts(made, moved)


if __name__ == "__main__":
    unittest.main()
