"""Promises [7], [8] and [9]: what holds for all arguments, values and errors."""

import unittest

from kit import BIGGER, Raises, profile, rows, texts
from rangepools.errors import BadNumber, BadRange, BadRoot, BadSize, Lacking, PoolError
from rangepools.profiles import Position, Profile
from rangepools.ratios import Ratio, as_ratio, greater, lesser, total


class Lists(unittest.TestCase):
    def test_tuples_instead_of_lists(self):
        one, other = Position(1, 3, 6), Position(2, 4, Ratio(1, 2))
        self.assertTrue(Profile((one, other)) == Profile([one, other]))
        self.assertTrue(Profile(positions=(one,)) == Profile(positions=[one]))
        self.assertTrue(Profile(()) == Profile([]))
        self.assertEqual(texts([total((1, Ratio(1, 2))), total(())]), ["3/2", "0"])

    def test_lists_changed_after_they_were_passed_in(self):
        given = [Position(1, 3, 6), Position(2, 4, Ratio(1, 2))]
        made = Profile(given)
        for change in (given.pop, lambda: given.append(Position(5, 6, 1)), given.reverse, given.clear):
            change()
            self.assertTrue(made == profile("1 3 6", "2 4 1/2"))
            self.assertEqual(texts(made.ends()), ["1", "2", "3", "4"])
            self.assertEqual(texts([made.size_at(2), *made.holds(2)]), ["13/2", "9/8", "6"])

    def test_lists_are_not_changed_by_functions(self):
        one, other = Position(2, 4, Ratio(1, 2)), Position(1, 3, 6)
        given = [one, other, one]
        Profile(given)
        self.assertEqual(len(given), 3)
        self.assertTrue(given[0] is one and given[1] is other and given[2] is one)
        numbers = [3, Ratio(1, 2), -1]
        total(numbers)
        self.assertEqual([numbers[0], numbers[1].text(), numbers[2], len(numbers)], [3, "1/2", -1, 3])

    def test_lists_changed_after_they_were_returned(self):
        made = profile("1 2 6", "3 4 1")
        for ask in (made.ends, made.stretches, made.positions):
            whole = ask()
            for change in (list.clear, list.reverse, list.pop):
                found = ask()
                change(found)
                self.assertTrue(ask() == whole)
                self.assertIsNot(ask(), found)
            found = ask()
            found[0] = None
            self.assertTrue(ask() == whole)
        self.assertEqual(rows(made.stretches()), [["1", "2", "6"], ["2", "3", "0"], ["3", "4", "1"]])
        self.assertTrue(made == profile("1 2 6", "3 4 1"))

    def test_empty_lists_are_new_on_each_call_too(self):
        made = Profile([])
        for ask in (made.ends, made.stretches, made.positions):
            ask().append(1)
            self.assertEqual(ask(), [])


class Names(unittest.TestCase):
    def test_all_arguments_by_name(self):
        made = Profile(positions=[Position(size=6, high=3, low=1)])
        self.assertEqual(texts([
            Ratio(bottom=4, top=2), Ratio.read(text="1/3"), Ratio(1).over(number=2), as_ratio(given=3),
            lesser(other=1, one=2), greater(other=1, one=2), total(numbers=[1, 2]),
            made.size_at(root=1), *made.holds(root=2), *Position.read(text="1 3 6").holds(root=2),
            *made.without(position=Position.read(text="1 3 5")).holds(root=3)]),
            ["1/2", "1/3", "1/2", "3", "1", "2", "3", "6", "1", "6", "1", "6", "0", "2"])


class Values(unittest.TestCase, Raises):
    def test_objects_of_different_classes_are_not_equal(self):
        values = [Ratio(1), Position(1, 3, 6), Profile([Position(1, 3, 6)]), Profile([]), [Ratio(1)], (Ratio(1),), "1",
                  None, BadNumber(1)]
        for at, one in enumerate(values):
            for other in values[:at] + values[at + 1:]:
                self.assertIs(one == other, False)
                self.assertIs(one != other, True)

    def test_a_ratio_is_equal_to_an_integer_with_the_same_value(self):
        self.assertTrue(Ratio(6, 3) == 2 and 2 == Ratio(6, 3) and [Ratio(2), 3] == [2, Ratio(3)])
        self.assertFalse(Ratio(6, 3) == 3 or 3 == Ratio(6, 3) or Ratio(5, 2) == 2)

    def test_numbers_may_be_integers_or_ratios_everywhere(self):
        for number in (lambda top: top, Ratio, lambda top: Ratio(top * 7, 7)):
            one = Position(number(1), number(3), number(6))
            self.assertEqual(one.text(), "1 3 6")
            self.assertEqual(texts(one.holds(number(2))), ["1", "6"])
            made = Profile([one])
            self.assertEqual(texts([made.size_at(number(1)), made.size_at(number(3))]), ["6", "0"])
            self.assertEqual(texts(made.holds(number(2))), ["1", "6"])
            self.assertEqual(texts([total([number(1), number(2)]), lesser(number(1), number(2))]), ["3", "1"])
            self.assertEqual(texts([greater(number(1), number(2)), Ratio(1).over(number(4))]), ["2", "1/4"])

    def test_errors_are_pool_errors_of_the_class_that_is_named(self):
        for error, run in [(BadNumber, lambda: as_ratio(None)), (BadRange, lambda: Position(3, 1, 1)),
                           (BadSize, lambda: Position(1, 3, 0)), (BadRoot, lambda: Profile([]).holds(0)),
                           (Lacking, lambda: Profile([]).without(Position(1, 2, 1)))]:
            self.assertIsInstance(self.raised(error, run), PoolError)
            self.assertIsInstance(self.raised(error, run), ValueError)

    def test_errors_name_the_very_value_that_was_passed(self):
        for value in ("1/2", [1, [2]], {"a": (1,)}, (), None, True):
            self.assertIs(self.raised(BadNumber, as_ratio, value).given, value)
            self.assertIs(self.raised(BadNumber, Position, 1, value, 0).given, value)
            self.assertIs(self.raised(BadRoot, Profile([]).size_at, value).given, value)
            self.assertIs(self.raised(BadRoot, Position(1, 3, 6).holds, value).given, value)

    def test_nothing_is_changed_by_an_error(self):
        one = Position(1, 3, 6)
        made = Profile([one])
        self.raised(Lacking, made.without, Position(1, 4, 1))
        self.raised(BadRoot, made.holds, -1)
        self.raised(BadRoot, made.size_at, "1")
        self.raised(BadRoot, one.holds, False)
        self.assertEqual((one.text(), rows(made.stretches())), ("1 3 6", [["1", "3", "6"]]))

    def test_somewhat_beyond_the_limits(self):
        # More than 16 positions, and integers of more than 60 digits, raise no error.
        far = BIGGER ** 3
        made = Profile([Position(Ratio(at, far), at + far, far) for at in range(1, 31)])
        self.assertEqual(len(made.ends()), 60)
        self.assertEqual(made.size_at(1).text(), str(30 * far))
        # What the package returned may be far greater still.
        number = Ratio(far, 7)
        for _ in range(6):
            number = number * number + Ratio(1, 3)
        whole = Position(Ratio(1).over(number), number, number)
        self.assertTrue(Position.read(whole.text()) == whole)
        self.assertTrue(Profile([whole]).without(whole) == Profile([]))


if __name__ == "__main__":
    unittest.main()
