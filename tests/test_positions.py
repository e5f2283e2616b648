"""Promises [3] and [13]: positions, what they hold, and their texts."""

import random
import unittest
from fractions import Fraction

from kit import BIG, BIGGER, NO_NUMBERS, Raises, fraction, fractions, position, random_fraction, random_triple, ratio, texts
from rangepools.errors import BadNumber, BadRange, BadRoot, BadSize, BadText
from rangepools.profiles import Position, Profile
from rangepools.ratios import Ratio

BAD_RANGES = [(0, 1), (0, Ratio(1, 2)), (-1, 1), (-2, -1), (Ratio(-1, 2), 3), (1, 1), (2, 1), (Ratio(1, 2), Ratio(2, 4)),
              (Ratio(1, 2), Ratio(1, 3)), (1, 0), (1, -1), (0, 0), (-1, -2), (BIG, BIG), (BIGGER, BIG), (-BIG, BIGGER)]
BAD_SIZES = [0, -1, Ratio(0, 5), Ratio(-1, 2), Ratio(1, -60), -BIG, Ratio(-1, BIGGER)]


def held(triple, root):
    """What a position holds, reckoned with the standard library, word by word as [3] says."""
    low, high, size = triple
    root = low if root < low else high if root > high else root
    return [size * (1 / root - 1 / high), size * (root - low)]


class Creation(unittest.TestCase, Raises):
    def test_properties_are_ratios(self):
        for low, high, size, wanted in [
                (1, 3, 6, ["1", "3", "6"]), (Ratio(2, 4), 1, Ratio(9, 6), ["1/2", "1", "3/2"]),
                (1, Ratio(3, 2), Ratio(1, BIG), ["1", "3/2", f"1/{BIG}"]),
                (BIG, BIGGER, BIGGER, [str(BIG), str(BIGGER), str(BIGGER)]),
                (Ratio(1, BIGGER), Ratio(1, BIG), 1, [f"1/{BIGGER}", f"1/{BIG}", "1"])]:
            with self.subTest(wanted=wanted):
                for made in (Position(low, high, size), Position(size=size, high=high, low=low)):
                    self.assertEqual(texts([made.low, made.high, made.size]), wanted)

    def test_properties_cannot_be_assigned(self):
        made = Position(1, 3, 6)
        for name in ("low", "high", "size"):
            with self.assertRaises(AttributeError):
                setattr(made, name, Ratio(2))
        self.assertEqual(made.text(), "1 3 6")

    def test_bad_number(self):
        for value in NO_NUMBERS:
            with self.subTest(value=value):
                self.names(BadNumber, value, Position, value, 3, 6)
                self.names(BadNumber, value, Position, 1, value, 6)
                self.names(BadNumber, value, Position, 1, 3, value)
                self.names(BadNumber, value, Position, size=value, high=3, low=1)

    def test_the_first_value_that_is_no_number_counts(self):
        self.names(BadNumber, "low", Position, "low", "high", "size")
        self.names(BadNumber, "high", Position, 1, "high", "size")
        self.names(BadNumber, True, Position, True, False, None)
        self.names(BadNumber, False, Position, 2, False, True)
        self.names(BadNumber, None, Position, size="x", high=None, low=1)

    def test_bad_number_comes_before_bad_range_and_bad_size(self):
        self.names(BadNumber, "high", Position, 0, "high", 0)
        self.names(BadNumber, None, Position, 3, 1, None)
        self.names(BadNumber, False, Position, 3, 3, False)
        self.names(BadNumber, True, Position, -1, True, -1)

    def test_bad_range(self):
        for low, high in BAD_RANGES:
            with self.subTest(low=low, high=high):
                self.raised(BadRange, Position, low, high, 1)
                self.raised(BadRange, Position, size=Ratio(1, 2), low=low, high=high)

    def test_bad_range_comes_before_bad_size(self):
        for low, high in BAD_RANGES:
            for size in BAD_SIZES:
                self.raised(BadRange, Position, low, high, size)

    def test_bad_size(self):
        for size in BAD_SIZES:
            self.names(BadSize, size, Position, 1, 3, size)
            self.names(BadSize, size, Position, size=size, low=Ratio(1, 9), high=Ratio(1, 8))

    def test_the_least_that_is_allowed(self):
        least = Ratio(1, BIGGER)
        self.assertEqual(Position(least, least + least, least).text(), f"1/{BIGGER} 2/{BIGGER} 1/{BIGGER}")


class Equality(unittest.TestCase):
    def test_equal_if_all_three_are(self):
        self.assertTrue(Position(1, 3, 6) == Position(Ratio(2, 2), Ratio(6, 2), Ratio(12, 2)))
        self.assertFalse(Position(1, 3, 6) != Position(1, 3, 6))
        for other in [Position(2, 3, 6), Position(1, 4, 6), Position(1, 3, 7), Position(Ratio(1, 2), 3, 6),
                      Position(3, 6, 1), Position(1, Ratio(5, 2), 6), Position(1, 3, Ratio(13, 2))]:
            with self.subTest(other.text()):
                self.assertIs(Position(1, 3, 6) == other, False)
                self.assertIs(other == Position(1, 3, 6), False)
                self.assertIs(Position(1, 3, 6) != other, True)

    def test_not_equal_to_values_of_other_classes(self):
        made = Position(1, 3, 6)
        for other in NO_NUMBERS + [1, Ratio(1), (1, 3, 6), [1, 3, 6], "1 3 6", Profile([made]), object()]:
            with self.subTest(other=other):
                self.assertIs(made == other, False)
                self.assertIs(other == made, False)


class Holding(unittest.TestCase, Raises):
    def test_below_within_and_above_the_range(self):
        made = Position(2, 4, Ratio(1, 2))
        for root, a, b in [
                (Ratio(1, BIG), "1/8", "0"), (1, "1/8", "0"), (Ratio(199, 100), "1/8", "0"), (2, "1/8", "0"),
                (Ratio(5, 2), "3/40", "1/4"), (3, "1/24", "1/2"), (Ratio(399, 100), "1/3192", "199/200"),
                (4, "0", "1"), (Ratio(401, 100), "0", "1"), (5, "0", "1"), (BIGGER, "0", "1")]:
            with self.subTest(a=a, b=b):
                found = made.holds(root)
                self.assertIsInstance(found, tuple)
                self.assertEqual(texts(found), [a, b])
                self.assertEqual(texts(made.holds(root=root)), [a, b])

    def test_example(self):
        self.assertEqual(texts(Position(1, 3, 6).holds(2)), ["1", "6"])

    def test_as_the_standard_library_reckons(self):
        chance = random.Random(31)
        for _ in range(300):
            triple = random_triple(chance)
            for root in [random_fraction(chance), triple[0], triple[1]]:
                self.assertEqual(fractions(position(triple).holds(ratio(root))), held(triple, root))

    def test_numbers_of_60_digits(self):
        triple = Fraction(1, BIGGER), Fraction(BIGGER, BIG - 10), Fraction(BIG, BIGGER)
        for root in (Fraction(1, BIGGER), Fraction(BIG, BIGGER), Fraction(BIGGER), Fraction(BIGGER, BIG - 10)):
            self.assertEqual(fractions(position(triple).holds(ratio(root))), held(triple, root))

    def test_bad_root(self):
        made = Position(1, 3, 6)
        for root in NO_NUMBERS + [0, -1, Ratio(0), Ratio(-1, 2), -BIG, Ratio(-1, BIGGER)]:
            with self.subTest(root=root):
                self.names(BadRoot, root, made.holds, root)
                self.names(BadRoot, root, made.holds, root=root)

    def test_holding_changes_nothing(self):
        made = Position(1, 3, 6)
        self.assertEqual(made.holds(2), made.holds(2))
        self.raised(BadRoot, made.holds, 0)
        self.assertEqual(made.text(), "1 3 6")


class Texts(unittest.TestCase, Raises):
    def test_text(self):
        for low, high, size, text in [(1, 3, 6, "1 3 6"), (2, 4, Ratio(1, 2), "2 4 1/2"),
                                      (Ratio(2, 6), Ratio(10, 4), Ratio(8, 2), "1/3 5/2 4"),
                                      (Ratio(1, BIG), BIG, BIGGER, f"1/{BIG} {BIG} {BIGGER}")]:
            with self.subTest(text):
                self.assertEqual(Position(low, high, size).text(), text)
                found = Position.read(text)
                self.assertIs(type(found), Position)
                self.assertTrue(found == Position(low, high, size))
                self.assertTrue(Position.read(text=text) == found)

    def test_read_is_the_other_way_round(self):
        chance = random.Random(32)
        for _ in range(200):
            triple = random_triple(chance)
            found = Position.read(position(triple).text())
            self.assertEqual((fraction(found.low), fraction(found.high), fraction(found.size)), triple)
            self.assertEqual(position(triple).text(), " ".join([str(number) for number in triple]))

    def test_bad_text(self):
        for text in [
                "", " ", "  ", "   ", "1", "1 3", "1 3 6 ", " 1 3 6", "1  3 6", "1 3  6", "1 3 6 9", "1 3 6 6", "136", "1,3,6",
                "1 3 6\n", "\n1 3 6", "1\n3\n6", "1\t3\t6", "1 3\n6", "1/1 3 6", "1 6/2 6", "1 3 12/2", "+1 3 6", "1 +3 6",
                "1 3 +6", "01 3 6", "1 03 6", "1 3 06", "1 3 6.0", "a b c", "1 3 x", "1 3 -", "1 3 /", "1 3 1/0", "- 3 6",
                # texts of numbers that are not those of a position
                "0 3 6", "-1 3 6", "1 1 6", "3 1 6", "1 0 6", "1 -3 6", "-3 -1 6", "1 3 0", "1 3 -6", "1 3 -1/2",
                "1/2 1/2 1", "1/2 1/3 1", "0 0 0", "3 1 0", "0 1 -1", "-1/2 1/2 1", "1 3 -0", "-0 3 6",
                "Position(1, 3, 6)", "(1, 3, 6)", "1 3 6 0", "1 3 6  ", "1 " * 2000, "9" * 4000, " " * 4000]:
            with self.subTest(text[:30]):
                self.raised(BadText, Position.read, text)
                self.raised(BadText, Position.read, text=text)

    def test_long_texts(self):
        text = "1 " + "2" * 2000 + " 1/" + "3" * 1990
        self.assertTrue(Position.read(text).text() == text)


if __name__ == "__main__":
    unittest.main()
