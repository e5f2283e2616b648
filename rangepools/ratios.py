"""Exact quotients of integers, and small functions over numbers: integers and Ratios."""

from math import gcd

from rangepools.errors import BadNumber, BadText, ByZero


class Ratio:
    """The quotient of two integers, in lowest terms and with a bottom above 0."""

    def __init__(self, top, bottom=1):
        if bottom == 0:
            raise ByZero()
        shared = gcd(top, bottom)
        if bottom < 0:
            shared = -shared
        self._top = top // shared
        self._bottom = bottom // shared

    @classmethod
    def read(cls, text):
        """The Ratio with this text."""
        top, bar, bottom = text.removeprefix("-").partition("/")
        if bar == "":
            bottom = "1"
        if not is_decimal(top) or not is_decimal(bottom) or bottom.startswith("0"):
            raise BadText()
        ratio = cls(whole(top), whole(bottom))
        if text.startswith("-"):
            ratio = -ratio
        # Only the text that the Ratio itself has is allowed: so no 2/4, no 3/1, no 007 and no -0.
        if ratio.text() != text:
            raise BadText()
        return ratio

    @property
    def top(self):
        """The upper integer in lowest terms."""
        return self._top

    @property
    def bottom(self):
        """The lower integer in lowest terms, which is above 0."""
        return self._bottom

    def __eq__(self, other):
        return is_number(other) and crossed(self, as_ratio(other)) == 0

    def __lt__(self, other):
        if not is_number(other):
            return NotImplemented
        return crossed(self, as_ratio(other)) < 0

    def __le__(self, other):
        if not is_number(other):
            return NotImplemented
        return crossed(self, as_ratio(other)) <= 0

    def __neg__(self):
        return Ratio(-self._top, self._bottom)

    def __add__(self, other):
        if not is_number(other):
            return NotImplemented
        right = as_ratio(other)
        return Ratio(self._top * right.bottom + right.top * self._bottom, self._bottom * right.bottom)

    def __sub__(self, other):
        if not is_number(other):
            return NotImplemented
        return Ratio(crossed(self, as_ratio(other)), self._bottom * as_ratio(other).bottom)

    def __mul__(self, other):
        if not is_number(other):
            return NotImplemented
        right = as_ratio(other)
        return Ratio(self._top * right.top, self._bottom * right.bottom)

    def over(self, number):
        """The quotient of this Ratio by a number."""
        right = as_ratio(number)
        return Ratio(self._top * right.bottom, self._bottom * right.top)

    def text(self):
        """The top, and if it is not 1, the bottom, in decimal notation."""
        sign = "-" if self._top < 0 else ""
        top = decimal(abs(self._top))
        if self._bottom == 1:
            return f"{sign}{top}"
        return f"{sign}{top}/{decimal(self._bottom)}"


def is_integer(given):
    """Whether a value is an integer; True and False are none."""
    return isinstance(given, int) and not isinstance(given, bool)


def is_number(given):
    """Whether a value is an integer or a Ratio."""
    return isinstance(given, Ratio) or is_integer(given)


def is_positive(given):
    """Whether a value is a number above 0."""
    return is_number(given) and not as_ratio(given) <= 0


def as_ratio(given):
    """The Ratio that is equal to a number."""
    if isinstance(given, Ratio):
        return given
    if not is_integer(given):
        raise BadNumber(given)
    return Ratio(given)


def crossed(one, other):
    """An integer that is below 0, 0 or above 0 as the Ratio one less the Ratio other is."""
    return one.top * other.bottom - other.top * one.bottom


def lesser(one, other):
    """The less one of two numbers, as a Ratio."""
    left, right = as_ratio(one), as_ratio(other)
    return left if left < right else right


def greater(one, other):
    """The greater one of two numbers, as a Ratio."""
    left, right = as_ratio(one), as_ratio(other)
    return right if left < right else left


def total(numbers):
    """The sum of a list of numbers, as a Ratio."""
    summed = Ratio(0)
    for number in numbers:
        summed = summed + as_ratio(number)
    return summed


def ascending(ratios):
    """The list of the different ones of some Ratios, the least first."""
    # sorted() asks for one key that can be compared; a quotient has none, so each is put in its place.
    ordered = []
    for ratio in ratios:
        place = len([other for other in ordered if other < ratio])
        if place == len(ordered) or ordered[place] != ratio:
            ordered.insert(place, ratio)
    return ordered


def is_decimal(digits):
    """Whether a string consists of at least one digit from 0 to 9 and nothing else."""
    return digits.isascii() and digits.isdigit()


# Python's own int and str refuse strings and integers of some thousand digits. The numbers that this
# package returns may have more, so the next two functions go through them in parts of 60 digits.


def decimal(natural):
    """The decimal notation of an integer that is at least 0."""
    parts = []
    rest = natural
    while rest >= 10 ** 60:
        rest, part = divmod(rest, 10 ** 60)
        parts.append(str(part).zfill(60))
    parts.append(str(rest))
    return "".join(reversed(parts))


def whole(digits):
    """The integer with some digits as its decimal notation, zeros in front included."""
    first = len(digits) % 60
    natural = int("0" + digits[:first])
    for start in range(first, len(digits), 60):
        natural = natural * 10 ** 60 + int(digits[start:start + 60])
    return natural
