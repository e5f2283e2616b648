"""Promises [6], [19], [20] and [21]: the curves of pools, their pieces, and chains of them."""

import random
import unittest
from fractions import Fraction

from kit import (BELOW_0, BIGGER, FEES, NO_GOODS, NO_NUMBERS, Raises, Walk, amounts_for, chain_told, fraction, fractions,
                 given_by, joints_of, made_pool, most_of, pool, random_curve, random_given, random_triples, ratio, rows, texts)
from rangepools.curves import Curve, chain_of, chained, curve_of, joined
from rangepools.errors import BadAmount, BadGood
from rangepools.pools import most, needed, rate
from rangepools.ratios import Ratio

GAPPED = ["1 3 6", "4 5 2"]
NEARLY_1 = f"{BIGGER - 1}/{BIGGER}"
STEP = Fraction(1, 10) ** 150       # so little that a curve is nearly straight

# Positions, root price, fee and good; then the pieces.
PIECES = [
    (["1 3 6"], "2", "1/4", "b", ["0 8 3 0 16"]),
    (["1 3 6"], "1", "0", "b", ["0 12 6 0 6"]),
    (["1 3 6"], "1", "0", "a", []),
    (["1 3 6"], "3", "0", "b", []),
    (["1 3 6"], "3", "0", "a", ["0 4 18 0 2"]),
    (["1 3 6"], "1/2", "0", "b", ["0 12 6 0 6"]),
    (["1 3 6"], "9", "0", "a", ["0 4 18 0 2"]),
    (GAPPED, "2", "0", "b", ["0 6 3 0 12", "6 8 3/2 -1 2"]),
    (GAPPED, "2", "0", "a", ["0 3 12 0 3"]),
    (GAPPED, "9/2", "0", "a", ["0 1/18 9 0 4/9", "1/18 73/18 19 17/18 35/18"]),
    (GAPPED, "7/2", "0", "b", ["0 2 1/2 0 8"]),
    (["1 2 6", "2 4 3"], "1", "1/2", "b", ["0 12 6 0 12", "12 24 9/2 -18 0"]),
    (["1 2 6", "2 3 6"], "1", "0", "b", ["0 12 6 0 6"]),                        # two positions, one stretch
    (["2 3 5", "1 3 1", "1 2 5"], "1", "0", "b", ["0 12 6 0 6"]),
    (["1 3 6"], "2", NEARLY_1, "b", [f"0 {6 * BIGGER} 3 0 {12 * BIGGER}"]),
    ([], "2", "0", "a", []), ([], "2", "1/2", "b", []),
]

# Positions, root price and fee of two pools, and goods of which their curves are equal.
EQUAL = [
    ((GAPPED, "2", "1/10"), (["4 5 2", "2 3 6", "1 2 6"], "2", "1/10"), "ab"),      # cut, in another order
    ((GAPPED, "2", "1/10"), (["1 3 5", "4 5 1", "1 3 1", "4 5 1"], "2", "1/10"), "ab"),
    ((GAPPED, "7/2", "0"), (GAPPED, "4", "0"), "ab"), ((GAPPED, "1/2", "0"), (GAPPED, "1", "0"), "ab"),
    ((GAPPED, "2", "0"), (["1/2 3 6", "4 5 2"], "2", "0"), "b"),                    # only what lies ahead counts
    ((GAPPED, "2", "0"), (["1 3 6"], "2", "0"), "a"),
    ((["1 2 6"], "1", "0"), (["1/2 1 3"], "1/2", "3/4"), "ab"),                     # different pools altogether
    ((["1 2 4", "4 8 8"], "3", "3/4"), (["1/2 1 8", "8 16 16"], "3", "0"), "ab"),
    ((["1 3 6"], "9", "1/2"), ([], "1", "0"), "b"),                                 # without pieces
]
UNEQUAL = [
    ((["1 3 6"], "1", "0"), (["1 4 6"], "1", "0"), "b"),                            # another end
    ((["1 3 6"], "1", "0"), (["1 3 6"], "1", "1/10"), "b"), ((["1 3 6"], "1", "0"), (["1 3 7"], "1", "0"), "b"),
    ((["1 3 6"], "1", "0"), (["1 3 6", "3 4 5"], "1", "0"), "b"), ((["1 3 6"], "1", "0"), ([], "1", "0"), "b"),
    ((["1 3 6"], "1", "0"), (["1 3 6", "4 5 6"], "1", "0"), "b"),
    ((["1 3 6", "4 5 6"], "1", "0"), (["1 3 6", "6 7 6"], "1", "0"), "b"),
    ((["1 3 6"], "2", "0"), (["1 3 6"], f"{2 * BIGGER + 1}/{BIGGER}", "0"), "ab"),
]


def made(given, root, fee):
    return pool(*given, root=root, fee=fee)


class Shape:
    """To be inherited beside TestCase: what [19] says of all curves."""

    def is_a_curve(self, curve):
        pieces = [tuple(fractions(piece)) for piece in curve.pieces()]
        self.assertEqual(fraction(curve.told(0)), 0)
        self.assertEqual([piece[0] for piece in pieces] + [fraction(curve.end())],
                         [Fraction(0)] + [piece[1] for piece in pieces])
        at, slope = Fraction(0), None
        for number, (start, end, p, q, t) in enumerate(pieces):
            self.assertTrue(start < end and start + t > 0 and end + t > 0)
            self.assertEqual((p * start + q) / (start + t), at)
            at = (p * end + q) / (end + t)
            first, last = (p * t - q) / (start + t) ** 2, (p * t - q) / (end + t) ** 2
            self.assertTrue(0 < last < first and (slope is None or first <= slope))
            slope = last
            if number > 0:
                self.assertNotEqual(pieces[number - 1][2:], (p, q, t))


class Pieces(unittest.TestCase, Raises, Shape):
    def test_cases(self):
        for given, root, fee, good, wanted in PIECES:
            with self.subTest(given, root=root, fee=fee, good=good):
                curve = curve_of(made(given, root, fee), good)
                self.assertIs(type(curve), Curve)
                self.assertIs(type(curve.pieces()), list)
                self.assertEqual(rows(curve.pieces()), [text.split(" ") for text in wanted])
                self.assertEqual(curve.end().text(), wanted[-1].split(" ")[1] if wanted else "0")
                self.assertTrue(curve_of(good=good, pool=made(given, root, fee)) == curve)
                self.is_a_curve(curve)

    def test_as_the_walk_from_end_to_end(self):
        chance = random.Random(81)
        for _ in range(200):
            given = random_given(chance)
            for good in "ab":
                curve = curve_of(made_pool(given), good)
                self.is_a_curve(curve)
                self.assertEqual(fraction(curve.end()), most_of(given, good))
                self.assertEqual([Fraction(0)] + [fraction(piece[1]) for piece in curve.pieces()], joints_of(given, good))
                for amount in amounts_for(chance, given, good):
                    if amount <= most_of(given, good):
                        self.assertEqual(fraction(curve.told(ratio(amount))), Walk(*given, good, amount).taken)

    def test_bad_good(self):
        for one in (made(GAPPED, "2", "0"), made([], "2", "0")):
            for good in NO_GOODS:
                with self.subTest(good=good):
                    self.names(BadGood, good, curve_of, one, good)
                    self.names(BadGood, good, curve_of, good=good, pool=one)


class Told(unittest.TestCase, Raises):
    def test_cases(self):
        curve = curve_of(made(GAPPED, "2", "0"), "b")
        for amount, wanted in [(0, "0"), (1, "3/13"), (3, "3/5"), (6, "1"), (7, "19/18"), (Ratio(15, 2), "41/38"), (8, "11/10")]:
            with self.subTest(amount=amount):
                self.assertEqual(texts([curve.told(amount), curve.told(amount=amount)]), [wanted] * 2)

    def test_without_pieces_it_is_0_for_0(self):
        curve = curve_of(made(GAPPED, "9", "0"), "b")
        self.assertEqual(texts([curve.end(), curve.told(0), curve.told(Ratio(0)), curve.needed(0)]), ["0"] * 4)
        self.assertIsNone(curve.needed(Ratio(1, BIGGER)))
        for amount in (Ratio(1, BIGGER), 1):
            self.names(BadAmount, amount, curve.told, amount)
        self.names(BadAmount, 0, curve.rate, 0)

    def test_bad_amount(self):
        curve = curve_of(made(GAPPED, "2", "0"), "b")
        for amount in NO_NUMBERS + BELOW_0 + [9, Ratio(8 * BIGGER + 1, BIGGER), BIGGER, Ratio(-1, BIGGER)]:
            with self.subTest(amount=amount):
                self.names(BadAmount, amount, curve.told, amount)
                self.names(BadAmount, amount, curve.told, amount=amount)


class Needed(unittest.TestCase, Raises):
    def test_cases(self):
        curve = curve_of(made(GAPPED, "2", "0"), "b")
        for wished, wanted in [(0, "0"), (Ratio(3, 5), "3"), (1, "6"), (Ratio(19, 18), "7"), (Ratio(11, 10), "8")]:
            with self.subTest(wished=wished):
                self.assertEqual(texts([curve.needed(wished), curve.needed(wished=wished)]), [wanted] * 2)
        for wished in (2, Ratio(11 * BIGGER + 10, 10 * BIGGER), BIGGER):
            self.assertIsNone(curve.needed(wished))

    def test_as_needed_of_the_pool(self):
        chance = random.Random(82)
        for _ in range(60):
            curve, given, good = random_curve(chance)
            for amount in amounts_for(chance, given, good):
                wished = Walk(*given, good, amount).taken * chance.choice([1, 1, Fraction(3, 2), Fraction(1, 3)])
                found, wanted = curve.needed(ratio(wished)), needed(made_pool(given), good, ratio(wished))
                self.assertIs(found is None, wanted is None)
                if found is not None:
                    self.assertTrue(found == wanted and curve.told(found) == ratio(wished))

    def test_bad_amount(self):
        for curve in (curve_of(made(GAPPED, "2", "0"), "b"), curve_of(made(GAPPED, "9", "0"), "b")):
            for wished in NO_NUMBERS + BELOW_0 + [Ratio(-1, BIGGER)]:
                with self.subTest(wished=wished):
                    self.names(BadAmount, wished, curve.needed, wished)
                    self.names(BadAmount, wished, curve.needed, wished=wished)


class Slopes(unittest.TestCase, Raises):
    def test_cases(self):
        curve = curve_of(made(GAPPED, "2", "0"), "b")
        # Behind the gap, at the amount 6, the root price is 4 at once.
        for amount, wanted in [(0, "1/4"), (3, "4/25"), (Ratio(6 * BIGGER - 1, BIGGER), None), (6, "1/16"), (7, "4/81")]:
            with self.subTest(amount=amount):
                found = curve.rate(amount)
                self.assertTrue(found == curve.rate(amount=amount))
                if wanted is None:
                    self.assertTrue(Ratio(1, 9) < found and found < Ratio(1, 8))
                else:
                    self.assertEqual(texts([found]), [wanted])

    def test_what_a_little_more_gives(self):
        chance = random.Random(83)
        for _ in range(60):
            curve, given, good = random_curve(chance)
            for amount in amounts_for(chance, given, good):
                if amount >= most_of(given, good):
                    continue
                slope = fraction(curve.rate(ratio(amount)))
                more = (Walk(*given, good, amount + STEP).taken - Walk(*given, good, amount).taken) / STEP
                self.assertTrue(more < slope < more * (1 + Fraction(1, BIGGER)))
            self.assertTrue(curve.rate(0) == rate(made_pool(given), good))

    def test_bad_amount(self):
        curve = curve_of(made(GAPPED, "2", "0"), "b")
        for amount in NO_NUMBERS + BELOW_0 + [8, Ratio(16, 2), 9, BIGGER, Ratio(-1, BIGGER)]:
            with self.subTest(amount=amount):
                self.names(BadAmount, amount, curve.rate, amount)
                self.names(BadAmount, amount, curve.rate, amount=amount)


class Equality(unittest.TestCase):
    def test_equal_curves_have_the_same_pieces(self):
        for one, other, goods in EQUAL:
            for good in goods:
                with self.subTest(one=one, other=other, good=good):
                    first, second = curve_of(made(*one), good), curve_of(made(*other), good)
                    self.assertTrue(first == second and second == first)
                    self.assertFalse(first != second)
                    self.assertTrue(first.pieces() == second.pieces())

    def test_different_curves(self):
        for one, other, goods in UNEQUAL:
            for good in goods:
                with self.subTest(one=one, other=other, good=good):
                    first, second = curve_of(made(*one), good), curve_of(made(*other), good)
                    self.assertFalse(first == second or second == first)
                    self.assertTrue(first != second)

    def test_not_equal_to_values_of_other_classes(self):
        one = made(["1 3 6"], "2", "0")
        curve = curve_of(one, "b")
        for other in NO_NUMBERS + [0, Ratio(0), one, one.profile, curve.pieces(), tuple(curve.pieces())]:
            self.assertFalse(curve == other or other == curve)
            self.assertTrue(curve != other)
        self.assertFalse(curve_of(made([], "2", "0"), "b") == [])

    def test_positions_cut_joined_and_in_another_order(self):
        chance = random.Random(84)
        for _ in range(60):
            triples = random_triples(chance)
            cut = [part for low, high, size in triples
                   for part in ((low, (2 * low + high) / 3, size), ((2 * low + high) / 3, high, size / 4),
                                ((2 * low + high) / 3, high, size * 3 / 4))]
            chance.shuffle(cut)
            root, fee = Fraction(chance.randint(1, 9)), chance.choice(FEES)
            for good in "ab":
                one = curve_of(made_pool((triples, root, fee)), good)
                other = curve_of(made_pool((cut, root, fee)), good)
                self.assertTrue(one == other and one.pieces() == other.pieces())


# Two stretches each, whose joints meet in the chain "bb" and cancel out there.
CANCELLING = [made(["1 2 12", "2 3 8"], "1", "0"), made(["1/2 2 4", "2 3 12"], "1/2", "0")]


class Joined(unittest.TestCase, Raises, Shape):
    def test_cases(self):
        curve, back = curve_of(made(["1 3 6"], "2", "1/4"), "b"), curve_of(made(["1 3 6"], "2", "1/4"), "a")
        # 3 x / (x + 16) is put into what tells 12 y / (y + 4).
        self.assertEqual(rows(joined(curve, back).pieces()), ["0 8 36/7 0 64/7".split(" ")])
        self.assertEqual(rows(joined(other=curve, one=back).pieces()), ["0 4 9/7 0 16/7".split(" ")])
        self.assertEqual(rows(chained([curve]).pieces()), rows(curve.pieces()))
        self.assertTrue(chained(curves=(curve, back)) == joined(curve, back))
        self.assertTrue(chain_of(goods="ba", pools=[made(["1 3 6"], "2", "1/4")] * 2) == joined(curve, back))

    def test_the_end_where_the_second_one_gives_something_back(self):
        wide, narrow = made(["1 9 6"], "2", "0"), made(["1 3 6"], "5/4", "0")
        curve = chain_of([wide, narrow], "ba")
        # 6/5 of the good a lead down to the root price 1, and 6 (1/2 - 1/w) = 6/5 holds at w = 10/3.
        self.assertEqual(texts([curve.end(), curve.told(8)]), ["8", "3/2"])
        self.names(BadAmount, Ratio(801, 100), curve.told, Ratio(801, 100))
        self.is_a_curve(curve)

    def test_the_end_where_the_first_one_ends(self):
        small, wide = made(["1 3 6"], "2", "0"), made(["1/9 9 60"], "3", "0")
        curve = chain_of([small, wide], "ba")
        self.assertTrue(curve.end() == most(small, "b") and curve.end() == 6)
        self.assertEqual(curve.told(6).text(), "60/7")

    def test_where_both_end_at_once(self):
        # The good b up to 3 takes 1 of a, and 1 of a leads down to the least end.
        curve = chain_of([made(["1 3 6"], "2", "0"), made(["3/2 3 6"], "2", "0")], "ba")
        self.assertEqual(texts([curve.end(), curve.told(6)]), ["6", "3"])
        self.is_a_curve(curve)

    def test_where_one_of_them_takes_nothing(self):
        nothing, curve = curve_of(made(["1 3 6"], "3", "0"), "b"), curve_of(made(["1 3 6"], "2", "0"), "b")
        for found in (joined(nothing, curve), joined(curve, nothing), joined(nothing, nothing),
                      chained([curve, curve, nothing]), chained([nothing, curve, curve]), chained([nothing])):
            self.assertTrue(found == nothing)
            self.assertEqual((found.pieces(), texts([found.end(), found.told(0)])), ([], ["0", "0"]))

    def test_pieces_are_as_few_as_possible(self):
        one, other = [curve_of(each, "b") for each in CANCELLING]
        self.assertEqual([len(one.pieces()), len(other.pieces())], [2, 2])
        chain = joined(one, other)
        self.assertEqual(len(chain.pieces()), 1)
        self.is_a_curve(chain)
        for part in range(11):
            amount = chain.end() * Ratio(part, 10)
            self.assertTrue(chain.told(amount) == other.told(one.told(amount)))
        more = made(["1/2 2 4", "2 3 11"], "1/2", "0")
        self.assertEqual(len(chain_of([CANCELLING[0], more], "bb").pieces()), 2)
        # The same behind another piece.
        further = [made(["2/3 4/5 4", "1 2 12", "2 3 8"], "2/3", "0"), made(["1/4 1/3 12", "1/2 2 4", "2 3 12"], "1/4", "0")]
        self.assertEqual([len(curve_of(each, "b").pieces()) for each in further], [3, 3])
        chain = chain_of(further, "bb")
        self.assertEqual([texts(piece[:1]) for piece in chain.pieces()], [["0"], ["8/15"]])
        self.is_a_curve(chain)

    def test_in_another_grouping(self):
        chance = random.Random(85)
        for _ in range(60):
            curves = [random_curve(chance)[0] for _ in range(3)]
            one, two, three = curves
            chain = chained(curves)
            self.is_a_curve(chain)
            for other in (joined(joined(one, two), three), joined(one, joined(two, three)), chained(tuple(curves))):
                self.assertTrue(chain == other and chain.pieces() == other.pieces())

    def test_what_the_first_one_tells_is_put_into_the_second_one(self):
        chance = random.Random(86)
        for _ in range(100):
            one, other = random_curve(chance)[0], random_curve(chance)[0]
            chain = joined(one, other)
            self.is_a_curve(chain)
            for part in range(8):
                amount = chain.end() * Ratio(part, 7)
                self.assertTrue(chain.told(amount) == other.told(one.told(amount)))
            if chain.end() < one.end():
                self.assertTrue(one.told(chain.end()) == other.end())
            else:
                self.assertTrue(chain.end() == one.end() and one.told(one.end()) <= other.end())


class Chains(unittest.TestCase, Raises, Shape):
    def test_as_the_walk_through_all_pools(self):
        chance = random.Random(87)
        ended = 0
        for _ in range(80):
            many = chance.randint(1, 4)
            givens = [random_given(chance) for _ in range(many)]
            goods = "".join(chance.choice("ab") for _ in range(many))
            chain = chain_of([made_pool(given) for given in givens], goods)
            self.is_a_curve(chain)
            end = fraction(chain.end())
            for amount in [end, end / 2, end / 7, Fraction(0)]:
                self.assertEqual(fraction(chain.told(ratio(amount))), chain_told(givens, goods, amount))
            for more in (end + STEP, end * 2 + 1):
                self.assertIsNone(chain_told(givens, goods, more))
            ended += end < most_of(givens[0], goods[0])
        self.assertTrue(ended > 5)

    def test_equal_pools_are_taken_as_different_ones(self):
        one = made(["1 3 6"], "2", "0")
        given = given_by(one)
        chain = chain_of([one, one, one], "bbb")
        self.assertEqual(fraction(chain.told(1)), chain_told([given] * 3, "bbb", Fraction(1)))
        self.assertTrue(chain == chain_of((one, made(["1 3 6"], "2", "0"), one), "bbb"))
        self.assertFalse(chain == chain_of([one, one], "bb"))

    def test_one_pool(self):
        one = made(GAPPED, "2", "1/10")
        for good in "ab":
            self.assertTrue(chain_of([one], good) == curve_of(one, good))
            self.assertTrue(chained([curve_of(one, good)]) == curve_of(one, good))

    def test_bad_goods(self):
        one = made(GAPPED, "2", "1/10")
        for pools, many in (([one, one], 2), ((one,), 1), ([], 0)):
            wrong = ["", "a", "aa", "ab", "bbb", "c", "ac", "ca", "A", "aB", "a ", " a", "ab ", None, True, 0, 1, Ratio(2),
                     ["a"], ["a", "b"], ("b", "a"), {"a": 1, "b": 2}, [], ()]
            for goods in wrong:
                if isinstance(goods, str) and len(goods) == many > 0 and set(goods) <= {"a", "b"}:
                    self.assertIs(type(chain_of(pools, goods)), Curve)
                    continue
                with self.subTest(many=many, goods=goods):
                    self.names(BadGood, goods, chain_of, pools, goods)
                    self.names(BadGood, goods, chain_of, goods=goods, pools=pools)


if __name__ == "__main__":
    unittest.main()
