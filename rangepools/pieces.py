"""Pieces of curves: tuples (start, end, p, q, t) that tell (p x + q) / (x + t) for the amounts x from start to end.

A list of pieces begins at the amount 0, where it tells 0, and each further piece begins where the one ahead of it
ends. In each piece, p is greater than all that it tells, and x + t is above 0: so there are no quotients by 0 here.
"""

from rangepools.ratios import Ratio, lesser


def told_in(piece, amount):
    """What a piece tells for an amount."""
    _, _, p, q, t = piece
    return (p * amount + q).over(t + amount)


def amount_in(piece, told):
    """The amount for which a piece tells a number."""
    _, _, p, q, t = piece
    return (t * told - q).over(p - told)


def slope_in(piece, amount):
    """The slope of a piece at an amount."""
    _, _, p, q, t = piece
    return (p * t - q).over((t + amount) * (t + amount))


def end_of(pieces):
    """The greatest amount for which pieces tell something."""
    return pieces[-1][1] if pieces else Ratio(0)


def told_by(pieces, amount):
    """What pieces tell for an amount that is at most their end."""
    for piece in pieces:
        if amount <= piece[1]:
            return told_in(piece, amount)
    # Without any piece, 0 is told for 0.
    return Ratio(0)


def amount_for(pieces, told):
    """The amount for which pieces tell a number, and None if they tell less everywhere."""
    for piece in pieces:
        if told <= told_in(piece, piece[1]):
            return amount_in(piece, told)
    return Ratio(0) if told <= 0 else None


def as_few(pieces):
    """Pieces that tell the same, as few as possible, and so the same for all pieces that tell the same."""
    joined = []
    for start, end, *numbers in pieces:
        begun = start
        if joined and list(joined[-1][2:]) == numbers:
            begun = joined.pop()[0]
        joined.append((begun, end, *numbers))
    return joined


def overlaid(one, other):
    """The tuples (start, end, piece, piece) of what one and other tell between neighbouring joints of theirs."""
    shared = []
    at = by = 0
    start = Ratio(0)
    while at < len(one) and by < len(other):
        left, right = one[at], other[by]
        end = lesser(left[1], right[1])
        shared.append((start, end, left, right))
        start = end
        if left[1] == end:
            at += 1
        if right[1] == end:
            by += 1
    return shared


def put_through(one, other):
    """The pieces of putting an amount into one, and what it tells into other."""
    made = []
    at = by = 0
    start = Ratio(0)
    while at < len(one) and by < len(other):
        first, second = one[at], other[by]
        told = lesser(told_in(first, first[1]), second[1])
        end = amount_in(first, told)
        numbers = behind(first, second)
        made.append((start, end, *numbers))
        start = end
        if first[1] == end:
            at += 1
        if second[1] == told:
            by += 1
    return made


def behind(first, second):
    """The numbers (p, q, t) of the piece that puts into second what first tells."""
    _, _, p, q, t = first
    _, _, further_p, further_q, further_t = second
    bottom = p + further_t
    return ((further_p * p + further_q).over(bottom), (further_p * q + further_q * t).over(bottom),
            (further_t * t + q).over(bottom))
