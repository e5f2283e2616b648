"""Positions: ranges of root prices with a size. Profiles: the size of some positions at all root prices."""

from rangepools.errors import BadRange, BadRoot, BadSize, BadText, Lacking
from rangepools.ratios import Ratio, as_ratio, ascending, greater, is_positive, lesser, total


class Position:
    """A size in the range of root prices from low up to, but not including, high."""

    def __init__(self, low, high, size):
        self._low, self._high, self._size = as_ratio(low), as_ratio(high), as_ratio(size)
        if not is_positive(low) or not self._low < self._high:
            raise BadRange()
        if not is_positive(size):
            raise BadSize(size)

    @classmethod
    def read(cls, text):
        """The position with this text."""
        words = text.split(" ")
        if len(words) != 3:
            raise BadText()
        low, high, size = [Ratio.read(word) for word in words]
        try:
            return cls(low, high, size)
        except (BadRange, BadSize):
            raise BadText() from None

    @property
    def low(self):
        """The least root price of the range."""
        return self._low

    @property
    def high(self):
        """The root price at which the range has ended."""
        return self._high

    @property
    def size(self):
        """The size, which is above 0."""
        return self._size

    def __eq__(self, other):
        return (isinstance(other, Position) and self._low == other._low and self._high == other._high
                and self._size == other._size)

    def holds(self, root):
        """The tuple (a, b) of the amounts that the position holds at a root price."""
        met = lesser(greater(as_root(root), self._low), self._high)
        return self._size.over(met) - self._size.over(self._high), self._size * (met - self._low)

    def text(self):
        """The texts of low, high and size."""
        return f"{self._low.text()} {self._high.text()} {self._size.text()}"


class Profile:
    """The size of some positions at all root prices."""

    def __init__(self, positions):
        ranges = [(position.low, position.high, position.size) for position in positions]
        # Kept as few as possible, and so the same for all positions with the same profile.
        self._stretches = tuple(merged(cut_up(ranges)))

    def __eq__(self, other):
        return isinstance(other, Profile) and self._stretches == other._stretches

    def __add__(self, other):
        if not isinstance(other, Profile):
            return NotImplemented
        return Profile(self.positions() + other.positions())

    def ends(self):
        """The ascending list of the root prices at which the size changes."""
        return [low for low, _, _ in self._stretches] + [high for _, high, _ in self._stretches[-1:]]

    def size_at(self, root):
        """The size at a root price."""
        return size_within(self._stretches, as_root(root))

    def stretches(self):
        """The ascending list of tuples (low, high, size) of what lies between neighbouring ends, gaps included."""
        return list(self._stretches)

    def positions(self):
        """The ascending list of one position for each stretch that has a size."""
        return sized_positions(self._stretches)

    def without(self, position):
        """The profile whose size is less by that of a position in its whole range."""
        taken_away = (position.low, position.high, -position.size)
        parts = cut_up([*self._stretches, taken_away])
        if any([size < 0 for _, _, size in parts]):
            raise Lacking()
        return Profile(sized_positions(parts))

    def holds(self, root):
        """The tuple (a, b) of the amounts that the positions hold in sum at a root price."""
        at = as_root(root)
        held = [position.holds(at) for position in self.positions()]
        return total([a for a, _ in held]), total([b for _, b in held])


def as_root(root):
    """A root price as a Ratio."""
    if not is_positive(root):
        raise BadRoot(root)
    return as_ratio(root)


def size_within(ranges, root):
    """The sum of the sizes of those of some tuples (low, high, size) whose range contains a root price."""
    return total([size for low, high, size in ranges if low <= root and root < high])


def cut_up(ranges):
    """The size of some tuples (low, high, size) between each two neighbouring ends of theirs, in the same form."""
    ends = ascending([low for low, _, _ in ranges] + [high for _, high, _ in ranges])
    return [(low, high, size_within(ranges, low)) for low, high in zip(ends, ends[1:])]


def merged(parts):
    """Tuples (low, high, size), one behind the other, as few as possible."""
    joined = []
    for low, high, size in parts:
        if joined and joined[-1][2] == size:
            start, _, _ = joined.pop()
            joined.append((start, high, size))
        else:
            joined.append((low, high, size))
    return joined


def sized_positions(parts):
    """The list of one position for each of some tuples (low, high, size) whose size is above 0."""
    return [Position(low, high, size) for low, high, size in parts if is_positive(size)]
