"""Promises [2], [11] and [12]: exact quotients, their texts, and the functions over numbers."""

import random
import unittest
from fractions import Fraction

from kit import BIG, BIGGER, NO_NUMBERS, Raises, fraction, ratio, texts
from rangepools.errors import BadNumber, BadText, ByZero
from rangepools.profiles import Position, Profile
from rangepools.ratios import Ratio, as_ratio, ascending, greater, lesser, total

INTEGERS = [0, 1, -1, 2, -3, 6, 10, -35, BIG, -BIG, BIGGER, -BIGGER]
NOT_THE_TEXT = [
    "", " ", "-", "+", "/", "-/", "2/4", "-2/4", "+3", "+1/2", "-0", "0/1", "0/5", "-0/5", "3/1", "-3/1", "1/0", "0/0",
    "-1/0", "00", "01", "-01", "007", "1/02", "01/2", "1/-2", "-1/-2", "1/+2", "--1", "---1", "1-", "1/2-", "- 1",
    "1/", "/2", "-/2", "-1/", "1//2", "1/2/3", "1/2/", " 1", "1 ", "1 /2", "1/ 2", "1\n", "\n1", "1/2\n", "1\n/2",
    "1.0", "1.5", ".5", "1e3", "1_000", "1,5", "0x10", "0b1", "a", "one", "1a", "a/2", "1/a", "None", "True", "inf", "nan",
    "1\\2", "1:2", "(1)", "1 2", "12 ", "'1'", "10/4", "6/3", "-6/3", "1/1", "-1/1",
    # beyond the texts that callers pass: other digits and spaces than those of ASCII
    "\u0663", "1/\u0662", "\u00b2", "\u00bd", "1\u00a0", "\uff11", "\u22121",
    str(BIG * 2) + "/" + str(BIG * 4), str(BIG) + "/1", "0" + str(BIG), "1/0" + str(BIG), "-" + "0" * 60,
]


class Creation(unittest.TestCase, Raises):
    def same(self, found, top, bottom):
        self.assertIs(type(found), Ratio)
        self.assertEqual((found.top, found.bottom), (top, bottom))
        self.assertEqual((type(found.top), type(found.bottom)), (int, int))

    def test_lowest_terms_with_bottom_above_0(self):
        for top, bottom, low_top, low_bottom in [
                (3, 4, 3, 4), (-3, -6, 1, 2), (3, -6, -1, 2), (-3, 6, -1, 2), (6, 3, 2, 1), (0, 7, 0, 1), (0, -7, 0, 1),
                (7, 7, 1, 1), (5, -1, -5, 1), (-5, -1, 5, 1), (10, 4, 5, 2), (BIG * 6, BIG * 4, 3, 2),
                (-BIGGER, BIGGER, -1, 1), (BIG, -BIGGER, -BIG, BIGGER), (2 * BIG, -6, -BIG, 3)]:
            with self.subTest(top=top, bottom=bottom):
                self.same(Ratio(top, bottom), low_top, low_bottom)
                self.same(Ratio(bottom=bottom, top=top), low_top, low_bottom)

    def test_bottom_is_1_unless_it_is_given(self):
        for top in INTEGERS:
            self.same(Ratio(top), top, 1)
            self.same(Ratio(top=top), top, 1)

    def test_by_zero(self):
        for top in INTEGERS:
            self.raised(ByZero, Ratio, top, 0)
            self.raised(ByZero, Ratio, top=top, bottom=0)

    def test_top_and_bottom_cannot_be_assigned(self):
        half = Ratio(1, 2)
        for name in ("top", "bottom"):
            with self.assertRaises(AttributeError):
                setattr(half, name, 3)
        self.same(half, 1, 2)


class Operators(unittest.TestCase, Raises):
    def setUp(self):
        chance = random.Random(11)
        self.numbers = [Fraction(top, bottom) for top in INTEGERS for bottom in (1, 2, -3, BIG)]
        self.numbers += [Fraction(chance.randint(-30, 30), chance.randint(1, 12)) for _ in range(60)]

    def test_arithmetic_with_ratios(self):
        for one in self.numbers:
            for other in self.numbers:
                left, right = ratio(one), ratio(other)
                self.assertEqual(fraction(left + right), one + other)
                self.assertEqual(fraction(left - right), one - other)
                self.assertEqual(fraction(left * right), one * other)
                if other != 0:
                    self.assertEqual(fraction(left.over(right)), one / other)
                self.assertEqual((fraction(left), fraction(right)), (one, other))

    def test_arithmetic_with_integers(self):
        for one in self.numbers:
            for other in INTEGERS:
                left = ratio(one)
                self.assertEqual(fraction(left + other), one + other)
                self.assertEqual(fraction(left - other), one - other)
                self.assertEqual(fraction(left * other), one * other)
                if other != 0:
                    self.assertEqual(fraction(left.over(other)), one / other)

    def test_results_are_in_lowest_terms(self):
        for found, text in [(Ratio(1, 6) + Ratio(1, 3), "1/2"), (Ratio(1, 6) - Ratio(2, 3), "-1/2"),
                            (Ratio(2, 3) * Ratio(3, 2), "1"), (Ratio(1, 2) - Ratio(1, 2), "0"),
                            (Ratio(1, 2).over(Ratio(-3, 4)), "-2/3"), (Ratio(-1, 2).over(-2), "1/4"),
                            (Ratio(1, 2) * 0, "0"), (-Ratio(2, -4), "1/2"), (-Ratio(0, 5), "0")]:
            self.assertEqual((f"{found.top}/{found.bottom}" if found.bottom != 1 else str(found.top)), text)
            self.assertEqual(found.text(), text)
            self.assertGreater(found.bottom, 0)

    def test_opposite_number(self):
        for one in self.numbers:
            self.assertEqual(fraction(-ratio(one)), -one)

    def test_comparisons_with_ratios(self):
        for one in self.numbers:
            for other in self.numbers:
                left, right = ratio(one), ratio(other)
                self.assertIs(left == right, one == other)
                self.assertIs(left != right, one != other)
                self.assertIs(left < right, one < other)
                self.assertIs(left <= right, one <= other)

    def test_comparisons_with_integers(self):
        for one in self.numbers:
            for other in INTEGERS:
                left = ratio(one)
                self.assertIs(left == other, one == other)
                self.assertIs(other == left, one == other)
                self.assertIs(left != other, one != other)
                self.assertIs(left < other, one < other)
                self.assertIs(left <= other, one <= other)

    def test_numbers_that_are_very_near(self):
        one, other = Ratio(BIG, BIG + 1), Ratio(BIG + 1, BIG + 2)
        self.assertTrue(one < other and one <= other and not one == other and not other <= one and not other < one)

    def test_over_zero(self):
        for number in self.numbers:
            self.raised(ByZero, ratio(number).over, 0)
            self.raised(ByZero, ratio(number).over, number=Ratio(0, 3))

    def test_over_by_name(self):
        self.assertEqual(Ratio(3).over(number=4).text(), "3/4")

    def test_not_equal_to_what_is_no_number(self):
        others = NO_NUMBERS + [1.0, 0.0, 0.5, Fraction(1, 2), Fraction(1), Fraction(0), 1j, b"1", Position(1, 2, 1),
                               Profile([]), object(), Ratio, {1}]
        for number in (Ratio(0), Ratio(1), Ratio(1, 2), Ratio(-1)):
            for other in others:
                with self.subTest(number=number.text(), other=other):
                    self.assertIs(number == other, False)
                    self.assertIs(other == number, False)
                    self.assertIs(number != other, True)

    def test_true_and_false_are_not_1_and_0(self):
        self.assertFalse(Ratio(1) == True)  # noqa: E712
        self.assertFalse(Ratio(0) == False)  # noqa: E712
        self.assertTrue(Ratio(1) == 1 and Ratio(0) == 0)

    def test_operators_take_no_other_values(self):
        half = Ratio(1, 2)
        for value in NO_NUMBERS + [0.5, 1.0]:
            for run in (half.__add__, half.__sub__, half.__mul__, half.__lt__, half.__le__):
                self.assertIs(run(value), NotImplemented)
            self.assertRaises(TypeError, lambda: half + value)

    def test_operators_change_nothing(self):
        one, other = Ratio(1, 2), Ratio(3, 4)
        one + other, one - other, one * other, -one, one.over(other), one < other, one <= other, one == other
        one.text(), lesser(one, other), greater(one, other), total([one, other]), as_ratio(one)
        self.assertEqual((one.text(), other.text()), ("1/2", "3/4"))


class Texts(unittest.TestCase, Raises):
    def test_text(self):
        for top, bottom, text in [(0, 1, "0"), (0, -9, "0"), (3, 1, "3"), (-3, 1, "-3"), (-2, 5, "-2/5"),
                                  (2, -5, "-2/5"), (10, 4, "5/2"), (100, 1, "100"), (1, 100, "1/100"),
                                  (BIG, 1, str(BIG)), (-BIG, BIGGER, f"-{BIG}/{BIGGER}")]:
            with self.subTest(text):
                self.assertEqual(Ratio(top, bottom).text(), text)

    def test_read_is_the_other_way_round(self):
        chance = random.Random(12)
        numbers = [Ratio(chance.randint(-40, 40), chance.randint(1, 9)) for _ in range(200)]
        numbers += [Ratio(top, bottom) for top in INTEGERS for bottom in (1, 7, -BIG, BIGGER)]
        for number in numbers:
            found = Ratio.read(number.text())
            self.assertEqual((found.top, found.bottom), (number.top, number.bottom))
            self.assertIs(type(found), Ratio)
        self.assertEqual(Ratio.read(text="-7/3").text(), "-7/3")

    def test_bad_text(self):
        for text in NOT_THE_TEXT:
            with self.subTest(text):
                self.raised(BadText, Ratio.read, text)

    def test_every_short_text(self):
        # Of all strings of up to 4 of these characters, exactly those are read that are the text of a Ratio.
        allowed = {str(Fraction(top, bottom)) for top in range(-222, 2223) for bottom in range(1, 23)}
        layer = [""]
        for _ in range(4):
            layer = [text + sign for text in layer for sign in "012-/ "]
            for text in layer:
                try:
                    found = Ratio.read(text).text()
                except BadText:
                    found = None
                self.assertEqual(found, text if text in allowed else None)

    def test_texts_of_4000_characters(self):
        for text in ["9" * 4000, "-" + "8" * 3999, "1/" + "3" * 3998]:
            self.assertTrue(Ratio.read(text).text() == text)
        for text in ["0" * 4000, " " * 4000, "-" * 4000, "/" * 4000, "9" * 3999 + " ", "2" * 1999 + "/" + "4" * 1999]:
            self.raised(BadText, Ratio.read, text)

    def test_numbers_of_more_digits_than_callers_pass(self):
        # What the package returns has no limit: Python's own int and str stop at 4300 digits.
        zeros = "0" * 4999
        number = Ratio(10 ** 5000 + 1, 3)
        text = f"1{zeros}1/3"
        self.assertTrue(number.text() == text)
        self.assertTrue((-number).text() == f"-{text}")
        self.assertTrue(Ratio.read(text) == number)
        self.assertTrue(Ratio.read(f"-{text}") == -number)
        self.assertTrue(Ratio.read(f"3/1{zeros}1") == Ratio(1).over(number))
        self.raised(BadText, Ratio.read, f"1{zeros}2/3")

    def test_digits_around_the_parts_in_which_they_are_written(self):
        for digits in (1, 2, 59, 60, 61, 119, 120, 121, 180, 181, 240):
            for number in (10 ** digits - 1, 10 ** digits, 10 ** digits + 1, 10 ** digits // 7):
                self.assertEqual(Ratio(number).text(), str(number))
                self.assertEqual(Ratio(-1, number).text(), f"-1/{number}" if number > 1 else "-1")
                self.assertEqual(Ratio.read(str(number)).top, number)
                self.assertEqual(Ratio.read(str(-number)).top, -number)


class Functions(unittest.TestCase, Raises):
    def test_as_ratio(self):
        for number in INTEGERS:
            found = as_ratio(number)
            self.assertIs(type(found), Ratio)
            self.assertEqual((found.top, found.bottom), (number, 1))
        found = as_ratio(given=Ratio(-4, 6))
        self.assertIs(type(found), Ratio)
        self.assertEqual((found.top, found.bottom), (-2, 3))

    def test_bad_number(self):
        for value in NO_NUMBERS:
            with self.subTest(value=value):
                self.names(BadNumber, value, as_ratio, value)
                self.names(BadNumber, value, as_ratio, given=value)
                self.assertIs(self.raised(BadNumber, as_ratio, value).given, value)

    def test_lesser_and_greater(self):
        for one, other, less, great in [
                (1, 2, "1", "2"), (2, 1, "1", "2"), (3, 3, "3", "3"), (Ratio(1, 2), 1, "1/2", "1"),
                (1, Ratio(1, 2), "1/2", "1"), (Ratio(1, 3), Ratio(1, 2), "1/3", "1/2"), (0, -5, "-5", "0"),
                (Ratio(-1, 2), Ratio(-1, 3), "-1/2", "-1/3"), (Ratio(4, 2), 2, "2", "2"),
                (BIG, BIG + 1, str(BIG), str(BIG + 1)), (-BIG, BIGGER, str(-BIG), str(BIGGER))]:
            with self.subTest(less=less, great=great):
                self.assertEqual(texts([lesser(one, other), greater(one, other)]), [less, great])
                self.assertEqual(texts([lesser(other=other, one=one), greater(other=other, one=one)]), [less, great])

    def test_total(self):
        half = Ratio(1, 2)
        for numbers, text in [([], "0"), ([3], "3"), ([half], "1/2"), ([half, 1, half], "2"), ([1, -1], "0"),
                              ([Ratio(1, 3), Ratio(1, 6), -1], "-1/2"), ([BIG, -BIG, BIGGER], str(BIGGER)),
                              ([half] * 16, "8")]:
            with self.subTest(text):
                self.assertEqual(texts([total(numbers), total(tuple(numbers)), total(numbers=numbers)]), [text] * 3)

    def test_total_leaves_its_list(self):
        numbers = [1, Ratio(1, 2)]
        total(numbers)
        self.assertEqual(len(numbers), 2)
        self.assertEqual((numbers[0], numbers[1].text()), (1, "1/2"))

    def test_ascending(self):
        chance = random.Random(13)
        for _ in range(100):
            numbers = [Fraction(chance.randint(-6, 6), chance.randint(1, 4)) for _ in range(chance.randint(0, 9))]
            self.assertEqual([fraction(one) for one in ascending([ratio(number) for number in numbers])],
                             sorted(set(numbers)))


if __name__ == "__main__":
    unittest.main()
