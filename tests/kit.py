"""What several tests use: another way to reckon, and values that are no numbers."""

from fractions import Fraction

from rangepools.profiles import Position, Profile
from rangepools.ratios import Ratio

# Each is a value where a number may be asked, but none is one.
NO_NUMBERS = [True, False, None, "1", "1/2", "", [1], (1, 2), {1: 2}, [], {}]

BIG = 10 ** 59 + 7          # an integer of 60 digits
BIGGER = 10 ** 60 - 1       # the greatest one


def fraction(number):
    """The standard library's quotient that is equal to a Ratio."""
    assert isinstance(number, Ratio), number
    assert isinstance(number.top, int) and isinstance(number.bottom, int)
    return Fraction(number.top, number.bottom)


def fractions(numbers):
    return [fraction(number) for number in numbers]


def ratio(number):
    return Ratio(number.numerator, number.denominator)


def texts(numbers):
    for number in numbers:
        assert isinstance(number, Ratio), number
    return [number.text() for number in numbers]


def rows(tuples):
    for row in tuples:
        assert isinstance(row, tuple), row
    return [texts(row) for row in tuples]


def profile(*texts_of_positions):
    """The profile of the positions with some texts."""
    return Profile([Position.read(text) for text in texts_of_positions])


def random_fraction(random, least=1):
    return Fraction(random.randint(least, 12), random.choice([1, 1, 1, 2, 3, 5]))


def random_triple(random):
    """The low, the high and the size of some position."""
    low = random_fraction(random)
    return low, low + random_fraction(random), random_fraction(random)


def position(triple):
    low, high, size = triple
    return Position(ratio(low), ratio(high), ratio(size))


class Raises:
    """To be inherited beside TestCase: asks for an error of exactly one class, and for its value."""

    def raised(self, error, run, /, *arguments, **named):
        """The error of exactly this class that a call raises."""
        with self.assertRaises(error) as caught:
            run(*arguments, **named)
        self.assertIs(type(caught.exception), error)
        return caught.exception

    def names(self, error, value, run, /, *arguments, **named):
        """A call raises an error of exactly this class, which names a value."""
        found = self.raised(error, run, *arguments, **named).given
        self.assertEqual(found, value)
        self.assertIs(isinstance(found, bool), isinstance(value, bool))
