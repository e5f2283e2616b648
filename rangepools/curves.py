"""Curves: what is taken for each amount that is put into a pool, or into a chain of pools."""

from rangepools.errors import BadAmount, BadGood
from rangepools.pieces import amount_for, as_few, end_of, put_through, slope_in, told_by
from rangepools.pools import as_amount, pieces_of


class Curve:
    """What is told for each amount from 0 to an end."""

    def __init__(self, pieces):
        self._pieces = tuple(as_few(pieces))

    def __eq__(self, other):
        return isinstance(other, Curve) and self._pieces == other._pieces

    def pieces(self):
        """The list of the pieces (start, end, p, q, t), as few as possible."""
        return list(self._pieces)

    def end(self):
        """The greatest amount for which the curve tells something."""
        return end_of(self._pieces)

    def told(self, amount):
        """What the curve tells for an amount."""
        asked = as_amount(amount)
        if self.end() < asked:
            raise BadAmount(amount)
        return told_by(self._pieces, asked)

    def needed(self, wished):
        """The amount for which the curve tells what is wished, and None if it tells less everywhere."""
        return amount_for(self._pieces, as_amount(wished))

    def rate(self, amount):
        """The slope of the curve at an amount, towards greater amounts."""
        asked = as_amount(amount)
        for piece in self._pieces:
            if asked < piece[1]:
                return slope_in(piece, asked)
        raise BadAmount(amount)


def curve_of(pool, good):
    """The curve of a pool for a good."""
    return Curve(pieces_of(pool, good))


def joined(one, other):
    """The curve of putting an amount into one, and what it tells into other."""
    return Curve(put_through(one.pieces(), other.pieces()))


def chained(curves):
    """The curve of putting an amount into the first curve, what it tells into the second one, and so on."""
    chain = curves[0]
    for curve in curves[1:]:
        chain = joined(chain, curve)
    return chain


def chain_of(pools, goods):
    """The curve of a chain of pools, into which the goods with these letters are put."""
    if not isinstance(goods, str) or goods == "" or len(goods) != len(pools):
        raise BadGood(goods)
    if not all([letter in ("a", "b") for letter in goods]):
        raise BadGood(goods)
    return chained([curve_of(pool, good) for pool, good in zip(pools, goods)])
