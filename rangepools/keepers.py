"""Keepers: pools over time, with named positions and their fees."""

from rangepools.errors import BadSize, InUse, NoPosition
from rangepools.names import as_name
from rangepools.pools import Pool, trade
from rangepools.profiles import Position, Profile
from rangepools.ratios import Ratio, is_positive, total

# The fee of a part of a trade is shared in proportion to the sizes, and so is the net amount, which stays in the
# positions. So the share of a position is f / (1 - f) times what it holds more of the good behind the trade, and
# nothing has to be cut at the ends of the others.


class Keeper:
    """A root price, a fee, and named positions with the fees that have not been collected."""

    def __init__(self, root, fee):
        # A pool asks for the same root price and the same fee.
        empty = Pool(Profile([]), root, fee)
        self._root = empty.root
        self._fee = empty.fee
        self._positions = {}
        self._fees = {}

    def lend(self, name, low, high, size):
        """Open a position; the tuple (a, b) of what must be brought in."""
        as_name(name)
        if name in self._positions:
            raise InUse(name)
        opened = Position(low, high, size)
        self._positions[name] = (opened.low, opened.high, opened.size)
        self._fees[name] = (Ratio(0), Ratio(0))
        return opened.holds(self._root)

    def grow(self, name, size):
        """Make the size of a position greater; the tuple (a, b) of what must be brought in."""
        low, high, present = self.position(name)
        if not is_positive(size):
            raise BadSize(size)
        self._positions[name] = (low, high, present + size)
        return held_by((low, high, size), self._root)

    def lessen(self, name, size):
        """Make the size of a position less; the tuple (a, b) of what is given out."""
        low, high, present = self.position(name)
        if not is_positive(size) or present < size:
            raise BadSize(size)
        self._positions[name] = (low, high, present - size)
        return held_by((low, high, size), self._root)

    def trade(self, good, amount):
        """Let a trade come about; the tuple (taken, left) of what is taken and what is given back."""
        after, taken, left = trade(self.pool(), good, amount)
        for name in self.names():
            share = self._share(self._positions[name], good, after.root)
            # Sums of fees grow long, and adding nothing to them would take its time, too.
            if share != 0:
                a, b = self._fees[name]
                self._fees[name] = (a + share, b) if good == "a" else (a, b + share)
        self._root = after.root
        return taken, left

    def _share(self, place, good, root):
        """The fees of a position, in the good that is put in, for a trade that leads to a root price."""
        side = 0 if good == "a" else 1
        gained = held_by(place, root)[side] - held_by(place, self._root)[side]
        return (gained * self._fee).over(Ratio(1) - self._fee)

    def fees(self, name):
        """The tuple (a, b) of the fees of a position that have not been collected."""
        self.position(name)
        return self._fees[name]

    def collect(self, name):
        """Give out the fees of a position; the tuple (a, b) of them."""
        collected = self.fees(name)
        self._fees[name] = (Ratio(0), Ratio(0))
        return collected

    def close(self, name):
        """Forget a position; the tuple (a, b) of all that is given out."""
        (a, b), (fee_a, fee_b) = held_by(self.position(name), self._root), self._fees[name]
        del self._positions[name]
        del self._fees[name]
        return a + fee_a, b + fee_b

    def holds(self):
        """The tuple (a, b) of what all positions hold, and of all fees that have not been collected."""
        parts = [held_by(self._positions[name], self._root) for name in self._positions]
        parts.extend([self._fees[name] for name in self._fees])
        return total([a for a, _ in parts]), total([b for _, b in parts])

    def pool(self):
        """The pool as it stands."""
        places = [self._positions[name] for name in self._positions]
        sized = [Position(low, high, size) for low, high, size in places if is_positive(size)]
        return Pool(Profile(sized), self._root, self._fee)

    def names(self):
        """The list of the names of all positions, in the order in which they were opened."""
        return list(self._positions)

    def position(self, name):
        """The tuple (low, high, size) of a position."""
        if not isinstance(name, str) or name not in self._positions:
            raise NoPosition(name)
        return self._positions[name]

    def twin(self):
        """Another keeper that stands the same."""
        other = Keeper(self._root, self._fee)
        other._positions = dict(self._positions)
        other._fees = dict(self._fees)
        return other


def held_by(place, root):
    """The tuple (a, b) of what a position (low, high, size) holds, whose size may be 0."""
    low, high, size = place
    if not is_positive(size):
        return Ratio(0), Ratio(0)
    return Position(low, high, size).holds(root)
