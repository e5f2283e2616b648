"""Curves compared: which of them tells more, and whether one tells more than what is put in."""

from rangepools.pieces import overlaid, told_in
from rangepools.pools import as_amount
from rangepools.ratios import greater, lesser


def never_less(one, other):
    """Whether one tells at least as much as other for all amounts for which both tell something."""
    return less_at(one, other) is None


def less_at(one, other):
    """An amount for which one tells less than other, and None if there is none."""
    for start, end, left, right in overlaid(one.pieces(), other.pieces()):
        for amount in [start, end] + turning(start, end, left, right):
            if told_in(left, amount) < told_in(right, amount):
                return amount
    return None


def turning(start, end, left, right):
    """The list of the amount between start and end at which left may be less than right if it is less at neither."""
    _, _, p, q, t = left
    _, _, other_p, other_q, other_t = right
    # Multiplied by both bottoms, which are above 0, the difference is a quadratic polynomial. It is least at its
    # turning point if it bends upwards, and at the start or the end if it does not.
    bend = p - other_p
    if bend <= 0:
        return []
    amount = (other_p * t + other_q - p * other_t - q).over(bend * 2)
    return [amount] if start < amount and amount < end else []


def same_until(one, other):
    """The greatest amount up to which both curves tell the same."""
    for start, _, left, right in overlaid(one.pieces(), other.pieces()):
        # Different pieces tell the same for two amounts at most.
        if left[2:] != right[2:]:
            return start
    return lesser(one.end(), other.end())


def ahead(one, other):
    """The word "one" or "other" for the curve that never tells less, "same" for both, and else "depends"."""
    if never_less(one, other):
        return "same" if never_less(other, one) else "one"
    return "other" if never_less(other, one) else "depends"


def best_for(curves, amount):
    """The tuple (index, told) of the first curve that tells most for an amount, and None if none tells anything."""
    asked = as_amount(amount)
    best = None
    for index, curve in enumerate(curves):
        if asked <= curve.end():
            told = curve.told(asked)
            if best is None or best[1] < told:
                best = (index, told)
    return best


def above(curve, number):
    """An amount for which the curve tells more than the amount and a number in sum, and None if there is none."""
    further = as_amount(number)
    for piece in curve.pieces():
        start, end, p, _, t = piece
        # Multiplied by the bottom, the gain is a quadratic polynomial that bends downwards: so it is greatest at
        # its turning point, or at the start or the end that comes nearest to it.
        amount = lesser(greater((p - t - further).over(2), start), end)
        if amount + further < told_in(piece, amount):
            return amount
    return None


def gains(curve):
    """Whether there is an amount for which the curve tells more than the amount."""
    return above(curve, 0) is not None
