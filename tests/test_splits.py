"""Promises [35] to [39]: amounts that are split among several pools."""

import random
import unittest
from fractions import Fraction

from kit import (BELOW_0, BIGGER, FEES, NO_GOODS, NO_NUMBERS, Raises, Walk, fraction, fractions, made_pool, most_of, pool, profile,
                 random_given, ratio, size_at, texts)
from rangepools.curves import Curve, curve_of
from rangepools.errors import BadAmount, BadGood, BadSplit, TooMuch, UnlikeFees
from rangepools.pools import Pool, most, trade
from rangepools.ratios import Ratio, total
from rangepools.splits import (best_split, best_yield, better_split, common_root, is_best, together_most, union_curve,
                               yield_of)

LOW, HIGH = pool("1 4 6", root=1), pool("1 4 3", root=2)
BOTH = [LOW, HIGH]
UNLIKE = [LOW, pool("1 4 6", root=1, fee=f"1/{BIGGER}")]
OF_AMOUNTS = [best_split, best_yield, common_root]
OF_SPLITS = [yield_of, is_best, better_split]


def has_size_between(triples, one, other):
    """Whether some size lies between two root prices."""
    cuts = sorted({end for low, high, _ in triples for end in (low, high)} | {one, other})
    return any(size_at(triples, cut) > 0 for cut in cuts if min(one, other) <= cut < max(one, other))


def is_common(givens, good, split, root):
    """Whether a root price is a common one behind a split, word by word as [37] says."""
    for (triples, start, fee), amount in zip(givens, split):
        if amount > 0:
            then = Walk(triples, start, fee, good, amount).root
            fine = then == root or not has_size_between(triples, then, root)
        else:
            fine = (start >= root if good == "b" else start <= root) or not has_size_between(triples, start, root)
        if not fine:
            return False
    return True


def yield_by_trading(givens, good, split):
    """What is taken in sum, or None if some pool gives something back."""
    walks = [Walk(*given, good, amount) for given, amount in zip(givens, split)]
    return None if any(walk.left > 0 for walk in walks) else sum((walk.taken for walk in walks), Fraction(0))


def random_givens(chance):
    """Some pools with the same fee, often equal ones or ones with the same root price."""
    fee = chance.choice(FEES)
    givens = [random_given(chance)[:2] + (fee,) for _ in range(chance.randint(1, 6))]
    if chance.random() < 0.3:
        givens = [given[:1] + (givens[0][1], fee) for given in givens]
    if chance.random() < 0.3:
        givens[-1] = givens[0]
    return givens


def random_shift(chance, givens, good, split):
    """Another split of the same sum of which nothing is given back, or None."""
    mosts = [most_of(given, good) for given in givens]
    one, other = chance.randrange(len(split)), chance.randrange(len(split))
    least = min(split[one], mosts[other] - split[other]) * chance.choice([Fraction(1), Fraction(1, 3), Fraction(1, BIGGER)])
    if one == other or least <= 0:
        return None
    shifted = list(split)
    shifted[one] -= least
    shifted[other] += least
    return shifted


class BestSplits(unittest.TestCase, Raises):
    def test_two_pools(self):
        for amount, split, wanted, root in [(9, ["8", "1"], "51/14", "7/3"), (6, ["6", "0"], "3", "2"), (3, ["3", "0"], "2", "3/2"),
                                            (24, ["18", "6"], "21/4", "4"), (0, ["0", "0"], "0", "1")]:
            self.assertEqual(texts(best_split(BOTH, "b", amount)), split)
            self.assertEqual(texts([best_yield(BOTH, "b", amount)]), [wanted])
            self.assertTrue(is_common([([(1, 4, 6)], 1, 0), ([(1, 4, 3)], 2, 0)], "b", fractions(best_split(BOTH, "b", amount)),
                                      fraction(common_root(BOTH, "b", amount))))
            if amount not in (0, 6):
                self.assertEqual(texts([common_root(BOTH, "b", amount)]), [root])
            self.assertTrue(is_best(BOTH, "b", best_split(BOTH, "b", amount)))

    def test_names_and_tuples(self):
        self.assertEqual(texts(best_split(amount=9, good="b", pools=(LOW, HIGH))), ["8", "1"])
        self.assertEqual(texts([best_yield(amount=9, good="b", pools=BOTH), common_root(amount=9, good="b", pools=BOTH),
                                together_most(good="b", pools=BOTH), yield_of(split=(6, 3), good="b", pools=BOTH)]),
                         ["51/14", "7/3", "24", "7/2"])
        self.assertIs(is_best(split=(6, 3), good="b", pools=BOTH), False)
        self.assertEqual(texts(better_split(split=(6, 3), good="b", pools=BOTH)), ["8", "1"])
        self.assertTrue(union_curve(good="b", pools=BOTH).told(9) == Ratio(51, 14))
        pools, split = [LOW, HIGH], [6, 3]
        for run in (lambda: best_split(pools, "b", 9), lambda: better_split(pools, "b", split)):
            run().clear()
            self.assertEqual(texts(run()), ["8", "1"])
        self.assertEqual((len(pools), split), (2, [6, 3]))

    def test_together_most(self):
        self.assertEqual(texts([together_most(BOTH, "a"), together_most(BOTH, "b"), together_most([LOW], "a")]), ["3/2", "24", "0"])
        self.assertEqual(together_most([pool("1 4 6", root=1, fee="1/4"), pool("1 4 3", root=2, fee="1/4")], "b").text(), "32")

    def test_one_pool_alone(self):
        for amount in (0, 1, 18):
            self.assertEqual(texts(best_split([LOW], "b", amount)), [str(amount)])
            self.assertTrue(best_yield([LOW], "b", amount) == trade(LOW, "b", amount)[1])
            self.assertTrue(is_best([LOW], "b", [amount]))
        self.assertEqual(common_root([LOW], "b", 6).text(), "2")

    def test_pools_with_one_root_price(self):
        # They share in proportion to their sizes, and act like the pool with the sum of their profiles.
        pools = [pool("1 4 6", root=2), pool("1 4 3", root=2), pool("1 4 6", root=2)]
        self.assertEqual(texts(best_split(pools, "b", 5)), ["2", "1", "2"])
        self.assertTrue(union_curve(pools, "b") == curve_of(pool("1 4 15", root=2), "b"))
        self.assertTrue(union_curve(pools, "a") == curve_of(pool("1 4 15", root=2), "a"))
        self.assertFalse(is_best(pools, "b", [2, 2, 1]))
        one, other = pool("1 3 6", "5 6 1", root=2, fee="1/4"), pool("2 5 3", "1/2 1 2", root=2, fee="1/4")
        both = Pool(one.profile + other.profile, 2, Ratio(1, 4))
        for good in "ab":
            self.assertTrue(union_curve([one, other], good) == curve_of(both, good))

    def test_gaps(self):
        gapped = [pool("1 2 6", "3 4 6", root=1), pool("2 3 2", root=1), pool("7 8 1", root=5)]
        self.assertEqual(texts(best_split(gapped, "b", 6)), ["6", "0", "0"])
        self.assertEqual(texts(best_split(gapped, "b", 7)), ["6", "1", "0"])
        self.assertEqual(texts(best_split(gapped, "b", 8)), ["6", "2", "0"])
        self.assertEqual(texts(best_split(gapped, "b", Ratio(29, 2))), ["12", "2", "1/2"])
        self.assertEqual(texts([common_root(gapped, "b", 7), common_root(gapped, "b", Ratio(29, 2))]), ["5/2", "15/2"])
        self.assertEqual(texts([together_most(gapped, "b"), together_most(gapped, "a")]), ["15", "0"])
        self.assertTrue(is_best(gapped, "b", [6, 2, 0]) and not is_best(gapped, "b", [7, 1, 0]))

    def test_pools_without_any_size(self):
        bare = [pool(root=2), pool(root=3), pool("1 2 6", root=2)]
        self.assertEqual(texts([together_most(bare, "b"), best_yield(bare, "b", 0)]), ["0", "0"])
        self.assertEqual(texts(best_split(bare, "b", 0)), ["0", "0", "0"])
        self.assertTrue(is_best(bare, "b", [0, 0, 0]))
        self.assertEqual(union_curve(bare, "b").pieces(), [])
        self.raised(TooMuch, best_split, bare, "b", Ratio(1, BIGGER))
        for good in "ab":
            self.assertIs(type(common_root(bare, good, 0)), Ratio)
        self.assertEqual(texts(best_split(bare, "a", 3)), ["0", "0", "3"])

    def test_equal_pools(self):
        self.assertEqual(texts(best_split([LOW, LOW, LOW], "b", 2)), ["2/3", "2/3", "2/3"])
        self.assertFalse(is_best([LOW, LOW], "b", [1, Ratio(BIGGER, BIGGER - 1)]))
        self.assertTrue(is_best([LOW, LOW], "b", [Ratio(3), 3]))

    def test_exactly_all_and_more(self):
        for good, most_together in (("b", Ratio(24)), ("a", Ratio(3, 2))):
            self.assertTrue(total(best_split(BOTH, good, most_together)) == most_together)
            self.assertEqual(texts(best_split(BOTH, good, most_together)), texts([most(LOW, good), most(HIGH, good)]))
            self.assertTrue(is_best(BOTH, good, best_split(BOTH, good, most_together)))
            for run in OF_AMOUNTS:
                self.raised(TooMuch, run, BOTH, good, most_together + Ratio(1, BIGGER))

    def test_the_union_curve(self):
        curve = union_curve(BOTH, "b")
        self.assertIs(type(curve), Curve)
        self.assertEqual(texts([curve.end(), curve.told(9), curve.told(3), curve.told(0)]), ["24", "51/14", "2", "0"])
        self.assertTrue(union_curve([LOW, pool(root=9)], "b") == curve_of(LOW, "b"))


class Splits(unittest.TestCase, Raises):
    def test_yields(self):
        self.assertEqual([yield_of(BOTH, "b", split).text() for split in ([6, 3], [8, 1], [0, 0], [0, 6])],
                         ["7/2", "51/14", "0", "3/4"])

    def test_better_splits(self):
        for split in ([9, 0], [0, 6], [6, 3], [Ratio(8 * BIGGER + 1, BIGGER), Ratio(BIGGER - 1, BIGGER)]):
            self.assertIs(is_best(BOTH, "b", split), False)
            better = better_split(BOTH, "b", split)
            self.assertTrue(total(better) == total(split) and yield_of(BOTH, "b", split) < yield_of(BOTH, "b", better))
        for split in ([8, 1], [6, 0], [0, 0], [18, 6]):
            self.assertIs(is_best(BOTH, "b", split), True)
            self.assertIsNone(better_split(BOTH, "b", split))

    def test_errors_in_their_order(self):
        for run in OF_AMOUNTS + OF_SPLITS:
            self.raised(UnlikeFees, run, UNLIKE, "c", -1 if run in OF_AMOUNTS else [-1])
            for good in NO_GOODS:
                self.names(BadGood, good, run, BOTH, good, -1 if run in OF_AMOUNTS else [-1])
        for run in (together_most, union_curve):
            self.raised(UnlikeFees, run, UNLIKE, "c")
            self.raised(UnlikeFees, run, [LOW, LOW, UNLIKE[1]], "a")
            for good in NO_GOODS:
                self.names(BadGood, good, run, BOTH, good)
        for amount in NO_NUMBERS + BELOW_0:
            for run in OF_AMOUNTS:
                self.names(BadAmount, amount, run, BOTH, "b", amount)
            for run in OF_SPLITS:
                self.names(BadAmount, amount, run, BOTH, "b", [amount])
                self.names(BadAmount, amount, run, BOTH, "b", [99, amount, None, -1])

    def test_wrong_splits(self):
        for run in OF_SPLITS:
            for split in ([], [1], [99], [1, 1, 1], (0, 0, 99)):
                self.raised(BadSplit, run, BOTH, "b", split)
            for split in ([19, 0], [0, 7], [18, Ratio(6 * BIGGER + 1, BIGGER)], (99, 99)):
                self.raised(TooMuch, run, BOTH, "b", split)
            self.raised(TooMuch, run, BOTH, "a", [1, 0])        # there is nothing below the root price of the first one


class Reckoned(unittest.TestCase):
    """Many pools and splits, once more by trading with the standard library."""

    def test_best_splits(self):
        chance = random.Random(36)
        unequal = 0
        for _ in range(120):
            givens, good = random_givens(chance), chance.choice("ab")
            pools = [made_pool(given) for given in givens]
            mosts = [most_of(given, good) for given in givens]
            self.assertEqual(fraction(together_most(pools, good)), sum(mosts))
            curve = union_curve(pools, good)
            self.assertEqual(fraction(curve.end()), sum(mosts))
            for share in (Fraction(0), Fraction(1), Fraction(chance.randint(1, 99), 100)):
                amount = sum(mosts) * share
                split = fractions(best_split(pools, good, ratio(amount)))
                self.assertEqual(sum(split), amount)
                best = yield_by_trading(givens, good, split)
                self.assertEqual([fraction(best_yield(pools, good, ratio(amount))), fraction(curve.told(ratio(amount)))], [best, best])
                root = fraction(common_root(pools, good, ratio(amount)))
                self.assertTrue(is_common(givens, good, split, root))
                for _ in range(3):
                    shifted = random_shift(chance, givens, good, split)
                    if shifted is not None:
                        self.assertLess(yield_by_trading(givens, good, shifted), best)
                        unequal += self.judged(pools, good, shifted, best)
        self.assertGreater(unequal, 40)

    def judged(self, pools, good, split, best):
        """A split that is not best is told from one that is, and a better one is found."""
        self.assertIs(is_best(pools, good, list(map(ratio, split))), False)
        better = better_split(pools, good, list(map(ratio, split)))
        self.assertEqual(sum(fractions(better)), sum(split))
        self.assertEqual(fraction(yield_of(pools, good, better)), best)
        return 1

    def test_any_splits(self):
        chance = random.Random(38)
        seen = {"best": 0, "none": 0, "too much": 0}
        for _ in range(150):
            givens, good = random_givens(chance)[:3], chance.choice("ab")
            pools = [made_pool(given) for given in givens]
            split = [most_of(given, good) * Fraction(chance.choice([0, 0, 1, 1, 2, 3, 4, 5, 10, 11]), 10) for given in givens]
            wanted = yield_by_trading(givens, good, split)
            asked = list(map(ratio, split))
            if wanted is None:
                self.assertRaises(TooMuch, yield_of, pools, good, asked)
                seen["too much"] += 1
                continue
            self.assertEqual(fraction(yield_of(pools, good, asked)), wanted)
            points = {start for _, start, _ in givens} | {end for one, _, _ in givens for low, high, _ in one for end in (low, high)}
            points |= {Walk(*given, good, amount).root for given, amount in zip(givens, split)}
            best = any(is_common(givens, good, split, point) for point in points)
            self.assertIs(is_best(pools, good, asked), best)
            seen["best" if best else "none"] += 1
        self.assertTrue(min(seen.values()) > 15, seen)

    def test_the_profile_of_a_pool_does_not_matter_behind_its_root_price(self):
        self.assertTrue(union_curve([Pool(profile("1 2 5", "2 4 6"), 2, 0)], "b") == union_curve([Pool(profile("2 4 6"), 2, 0)], "b"))


if __name__ == "__main__":
    unittest.main()
