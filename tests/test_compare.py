"""Promises [22], [23] and [24]: curves compared with each other, and with what is put in."""

import random
import unittest
from fractions import Fraction

from kit import (BELOW_0, BIG, BIGGER, NO_NUMBERS, Raises, fraction, fractions, made_pool, pool, random_curve, random_fraction,
                 ratio, texts)
from rangepools.compare import above, ahead, best_for, gains, less_at, never_less, same_until
from rangepools.curves import chain_of, chained, curve_of
from rangepools.errors import BadAmount
from rangepools.ratios import Ratio, lesser

TINY = f"{BIG}/{BIG * BIGGER + 1}"          # less than 1 divided by an integer of 60 digits


def up(*texts_of_positions, root=f"1/{BIGGER}", fee=0):
    """The curve of a pool for the good b, from below all positions if no root price is given."""
    return curve_of(pool(*texts_of_positions, root=root, fee=fee), "b")


NOTHING = up("1 2 6", root=2)
PLAIN = up("1 9 6")                                        # 6 x / (x + 6), to the amount 48
TOUCHING = up("4/3 2 72/5", "2 9 12/5")                    # 4 for the amount 12, where PLAIN has the same slope
NEAR = 10 ** 40
SMALL, GREAT = up("1 9 2", root=2), up("1 9 6", root=3)    # x / (x + 4) and 2 x / (x + 18), equal for 10

# Two curves, which of them is ahead, and up to where they tell the same.
CASES = [
    (PLAIN, PLAIN, "same", "48"),
    (PLAIN, up("1 5 6"), "same", "24"),                                         # different ends
    (PLAIN, up("1 5 6", "5 9 6"), "same", "48"),
    (up("1 2 6"), PLAIN, "same", "6"),
    (PLAIN, up("1 9 7"), "other", "0"),
    (PLAIN, up("1 9 6", fee=TINY), "one", "0"),
    (PLAIN, up("1 3 7"), "other", "0"),
    (PLAIN, up("1 2 6", "2 9 5"), "one", "6"),                                  # the same for a while
    (PLAIN, up("1 2 6", "2 9 7"), "other", "6"),
    (PLAIN, up("1 2 6", "3 9 6"), "one", "6"),
    (PLAIN, up("1 2 6", "2 3 5", "3 9 100"), "depends", "6"),
    (up("1 2 6", "3 4 1"), up("1 2 6", "3 4 1", "5 6 1"), "same", "7"),
    (SMALL, GREAT, "depends", "0"),                                             # they cross
    (up("1 7 2", root=2), GREAT, "one", "0"),                                   # they meet at the end of one
    (up("1 71/10 2", root=2), GREAT, "depends", "0"),
    (up("1 69/10 2", root=2), GREAT, "one", "0"),                               # they would cross behind it
    (SMALL, up("1 14/3 6", root=3), "one", "0"),                                # and of the other one
    (SMALL, up("1 47/10 6", root=3), "depends", "0"),
    (PLAIN, TOUCHING, "one", "0"),                                              # they touch between joints
    (up(f"1 9 {6 * NEAR + 1}/{NEAR}"), TOUCHING, "one", "0"),                   # they nearly touch
    (up(f"1 9 {6 * NEAR - 1}/{NEAR}"), TOUCHING, "depends", "0"),               # they cross twice between joints
    (up("1 9 6"), up("4/3 2 15", "4 9 6"), "one", "0"),                         # they touch at a joint, for 10
    (up("1 9 6"), up("4/3 2 15", "2 9 1"), "depends", "0"),                     # they cross at this joint
    (up("1 9 6"), up("4/3 2 15"), "one", "0"),                                  # the joint is the end
    (up("1 8/3 6", "8/3 9 1"), up("4/3 2 15", "2 9 1"), "depends", "0"),        # a joint of both
    (up("1 8/3 6", "8/3 9 1"), up("4/3 2 15", "4 9 1"), "one", "0"),
    (NOTHING, PLAIN, "same", "0"), (NOTHING, NOTHING, "same", "0"), (NOTHING, up(root=3), "same", "0"),
]
TURNED = {"one": "other", "other": "one", "same": "same", "depends": "depends"}


def least_is_below_0(square, line, rest, start, end):
    """Whether square x x + line x + rest is below 0 for some x from start to end, told from its discriminant."""
    if any((square * x + line) * x + rest < 0 for x in (start, end)):
        return True
    inside = square > 0 and 2 * square * start < -line < 2 * square * end
    return inside and line * line > 4 * square * rest


def is_less_somewhere(one, other):
    """Whether one tells less than other somewhere, reckoned with the standard library."""
    for start, end, p, q, t in [fractions(piece) for piece in one.pieces()]:
        for begun, ended, r, s, u in [fractions(piece) for piece in other.pieces()]:
            low, high = max(start, begun), min(end, ended)
            if low < high and least_is_below_0(p - r, p * u + q - r * t - s, q * u - s * t, low, high):
                return True
    return False


def is_above(curve, number):
    """Whether a curve tells more than the amount and a number in sum somewhere."""
    for start, end, p, q, t in [fractions(piece) for piece in curve.pieces()]:
        if least_is_below_0(Fraction(1), t + number - p, number * t - q, start, end):
            return True
    return False


def shared_end(one, other):
    return lesser(one.end(), other.end())


def random_pair(chance):
    """Two curves, often of pools that differ in one part only."""
    one, (triples, root, fee), good = random_curve(chance)
    low, high, size = chance.choice(triples)
    near = chance.choice([
        (triples, root, fee), (triples[1:], root, fee), (triples + [(low, high, size)], root, fee),
        (triples + [(high, high + 1, size)], root, fee), (triples, root * Fraction(10, 9), fee),
        (triples, root, Fraction(1, 5)), ([(a, b, c * 2) for a, b, c in triples], root * Fraction(11, 10), fee),
        ([(a, b, c / 2) for a, b, c in triples], root * Fraction(11, 10), fee),
        ([(a, b, c * 2) for a, b, c in triples], root, min(fee + Fraction(1, 10), Fraction(9, 10)))])
    other = chance.choice([curve_of(made_pool(near), good), random_curve(chance)[0]])
    if chance.random() < 0.3:
        further = random_curve(chance)[0]
        return chained([one, further]), chained([other, further])
    return one, other


class Compared(unittest.TestCase):
    def less(self, one, other):
        """The amount for which one tells less than other, asked in all ways."""
        amount = less_at(one, other)
        self.assertEqual(never_less(one, other), amount is None)
        self.assertIs(type(never_less(other=other, one=one)), bool)
        self.assertTrue(less_at(other=other, one=one) == amount)
        if amount is not None:
            self.assertIs(type(amount), Ratio)
            self.assertTrue(Ratio(0) <= amount <= shared_end(one, other))
            self.assertTrue(one.told(amount) < other.told(amount))
        return amount

    def test_cases(self):
        for number, (one, other, wanted, until) in enumerate(CASES):
            with self.subTest(number, wanted=wanted):
                self.assertEqual([ahead(one, other), ahead(other, one)], [wanted, TURNED[wanted]])
                self.assertEqual(ahead(other=other, one=one), wanted)
                self.assertIs(self.less(one, other) is None, wanted in ("same", "one"))
                self.assertIs(self.less(other, one) is None, wanted in ("same", "other"))
                self.assertEqual(texts([same_until(one, other), same_until(other=one, one=other)]), [until, until])

    def test_the_window_between_two_crossings_is_found(self):
        # PLAIN, made less by ever less, is less than TOUCHING only nearer and nearer to the amount 12.
        for zeros in (1, 5, 20, 60):
            one = up(f"1 9 {6 * 10 ** zeros - 1}/{10 ** zeros}")
            amount = self.less(one, TOUCHING)
            self.assertTrue(abs(fraction(amount) - 12) < Fraction(20, 10 ** (zeros // 2)))
            self.assertIsNone(self.less(up(f"1 9 {6 * 10 ** zeros + 1}/{10 ** zeros}"), TOUCHING))
            # Behind a piece that both share.
            one = up("1/2 1 10", f"1 9 {6 * 10 ** zeros - 1}/{10 ** zeros}")
            other = up("1/2 1 10", "4/3 2 72/5", "2 9 12/5")
            amount = self.less(one, other)
            self.assertTrue(abs(fraction(amount) - 17) < Fraction(20, 10 ** (zeros // 2)))
            self.assertEqual([ahead(one, other), same_until(one, other).text()], ["depends", "5"])
        self.assertIsNone(self.less(PLAIN, TOUCHING))
        self.assertTrue(PLAIN.told(12) == TOUCHING.told(12))

    def test_as_the_standard_library_reckons(self):
        chance = random.Random(91)
        found = {"same": 0, "one": 0, "other": 0, "depends": 0}
        for _ in range(300):
            one, other = random_pair(chance)
            less, more = is_less_somewhere(one, other), is_less_somewhere(other, one)
            self.assertIs(self.less(one, other) is not None, less)
            self.assertIs(self.less(other, one) is not None, more)
            wanted = {(False, False): "same", (False, True): "one", (True, False): "other", (True, True): "depends"}
            self.assertEqual(ahead(one, other), wanted[less, more])
            found[ahead(one, other)] += 1
            for part in range(11):
                amount = shared_end(one, other) * Ratio(part, 10)
                self.assertTrue(less or other.told(amount) <= one.told(amount))
        self.assertTrue(min(found.values()) > 20, found)

    def test_same_until_the_amount_where_they_part(self):
        chance = random.Random(92)
        inside = 0
        for _ in range(300):
            one, other = random_pair(chance)
            until, end = same_until(one, other), shared_end(one, other)
            self.assertTrue(Ratio(0) <= until <= end)
            for part in range(8):
                amount = until * Ratio(part, 7)
                self.assertTrue(one.told(amount) == other.told(amount))
            if until < end:
                # Behind it they differ at least for one of any three small amounts.
                more = [until + (end - until) * Ratio(part, 10 ** 30) for part in (1, 2, 3)]
                self.assertFalse(all(one.told(amount) == other.told(amount) for amount in more))
                inside += Ratio(0) < until
        self.assertTrue(inside > 10)


class BestFor(unittest.TestCase, Raises):
    def test_cases(self):
        ended = up("1 3 6", root=2)                # to the amount 6
        for curves, amount, wanted in [
                ([SMALL, GREAT], 2, (0, "1/3")), ([GREAT, SMALL], 2, (1, "1/3")), ([SMALL, GREAT], 12, (1, "4/5")),
                ([SMALL, GREAT], 10, (0, "5/7")), ([GREAT, SMALL], 10, (0, "5/7")),         # both the same
                ([SMALL, SMALL, GREAT, GREAT], 12, (2, "4/5")), ([SMALL, GREAT, SMALL], 2, (0, "1/3")),
                ([SMALL, GREAT], 0, (0, "0")), ([NOTHING, SMALL], 0, (0, "0")), ([NOTHING, SMALL], 2, (1, "1/3")),
                ([NOTHING], 0, (0, "0")), ([NOTHING], 1, None), ([NOTHING], Ratio(1, BIGGER), None),
                ([ended, GREAT], 6, (0, "1")), ([ended, GREAT], Ratio(61, 10), (1, "122/241")),
                ([GREAT, ended], 6, (1, "1")), ([ended], 6, (0, "1")), ([ended], Ratio(6 * BIGGER + 1, BIGGER), None),
                ([SMALL], 14, (0, "7/9")), ([SMALL], 15, None), ([SMALL, GREAT], 100, None), ([], 0, None), ([], 5, None)]:
            with self.subTest(amount=amount, wanted=wanted):
                for found in (best_for(curves, amount), best_for(amount=amount, curves=tuple(curves))):
                    if wanted is None:
                        self.assertIsNone(found)
                        continue
                    self.assertIs(type(found), tuple)
                    self.assertIs(type(found[0]), int)
                    self.assertEqual((found[0], *texts(found[1:])), wanted)

    def test_the_first_of_all_that_tell_most(self):
        chance = random.Random(93)
        none = 0
        for _ in range(150):
            curves = [random_curve(chance)[0] for _ in range(chance.randint(0, 4))]
            curves = curves + curves[:chance.randint(0, 2)]
            ends = [fraction(curve.end()) for curve in curves]
            amount = chance.choice([Fraction(0), random_fraction(chance), *ends])
            told = [fraction(curve.told(ratio(amount))) if amount <= end else None for curve, end in zip(curves, ends)]
            found = best_for(curves, ratio(amount))
            if all(one is None for one in told):
                none += 1
                self.assertIsNone(found)
                continue
            greatest = max(one for one in told if one is not None)
            self.assertEqual((found[0], fraction(found[1])), (told.index(greatest), greatest))
        self.assertTrue(none > 10)

    def test_bad_amount(self):
        for curves in ([SMALL, GREAT], [NOTHING], []):
            for amount in NO_NUMBERS + BELOW_0 + [Ratio(-1, BIGGER), -BIG]:
                with self.subTest(many=len(curves), amount=amount):
                    self.names(BadAmount, amount, best_for, curves, amount)
                    self.names(BadAmount, amount, best_for, amount=amount, curves=curves)


NINE = up("2/3 100 6")                  # 9 x / (x + 4): the greatest gain is 1, for the amount 2
RING = chain_of([pool("1 9 2", root=2), pool("1 9 6", root=3)], "ba")


class Gains(unittest.TestCase, Raises):
    def ask(self, curve, number):
        amount = above(curve, number)
        self.assertTrue(above(number=number, curve=curve) == amount)
        if amount is not None:
            self.assertIs(type(amount), Ratio)
            self.assertTrue(Ratio(0) <= amount <= curve.end())
            self.assertTrue(amount + number < curve.told(amount))
        return amount is not None

    def test_cases(self):
        for curve, number, wanted in [
                (NINE, 0, True), (NINE, Ratio(1, 2), True), (NINE, Ratio(BIGGER - 1, BIGGER), True), (NINE, 1, False),
                (NINE, Ratio(BIGGER + 1, BIGGER), False), (NINE, 100, False),
                (up("2/3 1 6"), 1, False), (up("2/3 1 6"), Ratio(99, 100), True),        # its end is the amount 2
                (up("2/3 5/6 6"), Ratio(4, 5), False), (up("2/3 5/6 6"), Ratio(79, 100), True),     # its end is 1
                (PLAIN, 0, False), (PLAIN, 1, False), (up("1 9 6", fee="1/10"), 0, False), (up("9/10 9 6"), 0, True),
                (up("9/10 9 6", fee="19/100"), 0, False), (up("9/10 9 6", fee="9/50"), 0, True),
                (RING, 0, True), (RING, Ratio(1, 10), True), (RING, 1, False),
                (chain_of([pool("1 9 2", root=2), pool("1 9 6", root=2)], "ba"), 0, False),
                (NOTHING, 0, False), (NOTHING, 1, False)]:
            with self.subTest(number=number, wanted=wanted):
                self.assertIs(self.ask(curve, number), wanted)
                if number == 0:
                    self.assertIs(gains(curve), wanted)
                    self.assertIs(gains(curve=curve), wanted)

    def test_the_gain_in_a_further_piece(self):
        # The root price is still below 1 behind the joint, so the gain goes on growing there.
        curve = up("1/3 1/2 3", "1/2 100 2")
        start, end = curve.pieces()[1][:2]
        self.assertTrue(self.ask(curve, ratio(fraction(curve.told(start) - start))))
        self.assertTrue(start < above(curve, curve.told(start) - start) < end)

    def test_rings_that_gain_for_small_amounts_only(self):
        for fee, wanted in [("0", True), ("1/10", True), ("1/3", True), ("167/500", False), ("1/2", False)]:
            ring = chain_of([pool("1 9 2", root=2, fee=fee), pool("1 9 6", root=3, fee=fee)], "ba")
            with self.subTest(fee=fee):
                # The rates in sum are (1 - f) (1 - f) 9/4, which is 1 for the fee 1/3.
                self.assertIs(gains(ring), wanted and fee != "1/3")
                self.assertFalse(self.ask(ring, 3))
                self.assertTrue(ring.told(ring.end()) <= ring.end())

    def test_as_the_standard_library_reckons(self):
        chance = random.Random(94)
        found = []
        for _ in range(300):
            curve = chained([random_curve(chance)[0] for _ in range(chance.randint(1, 3))])
            samples = [curve.end() * Ratio(part, 10) for part in range(11)]
            gain = [fraction(curve.told(amount) - amount) for amount in samples]
            for number in (Fraction(0), random_fraction(chance) / 5, max(gain), max(gain) * Fraction(99, 100)):
                wanted = is_above(curve, number)
                self.assertIs(self.ask(curve, ratio(number)), wanted)
                self.assertFalse(max(gain) > number and not wanted)
                found.append(wanted)
            self.assertIs(gains(curve), is_above(curve, 0))
        self.assertTrue(100 < found.count(True) < len(found) - 100)

    def test_bad_amount(self):
        for curve in (NINE, NOTHING):
            for number in NO_NUMBERS + BELOW_0 + [Ratio(-1, BIGGER), -BIG]:
                with self.subTest(number=number):
                    self.names(BadAmount, number, above, curve, number)
                    self.names(BadAmount, number, above, number=number, curve=curve)


if __name__ == "__main__":
    unittest.main()
