"""What the goods of positions are worth at all root prices, in units of b."""

from rangepools.errors import BadRange, BadShare
from rangepools.pools import as_amount
from rangepools.profiles import as_root
from rangepools.ratios import Ratio, as_ratio, ascending, is_number, is_positive

# Between two neighbouring ends, the worth is p s s + q s + r at the root price s.


def worth(profile, root):
    """The worth at a root price of what the positions hold there."""
    return kept_worth(profile, root, root)


def kept_worth(profile, root, end):
    """The worth at the root price end of what the positions held at a root price."""
    a, b = profile.holds(root)
    at = as_root(end)
    return at * at * a + b


def lag(profile, root, end):
    """What the goods that are kept at home are worth more at the root price end."""
    return kept_worth(profile, root, end) - worth(profile, end)


def worth_pieces(profile):
    """The list of tuples (start, end, p, q, r) of the worth p s s + q s + r from start to end."""
    ends = profile.ends()
    # A root price within the first piece, whatever it is, as the piece begins at 0.
    inside = ends[0].over(2) if ends else Ratio(1)
    pieces = []
    for start, root, end in zip([Ratio(0)] + ends, [inside] + ends, ends + [None]):
        p, q, r = numbers_from(profile, root)
        pieces.append((start, end, p, q, r))
    return pieces


def numbers_from(profile, root):
    """The tuple (p, q, r) of the worth from a root price up to the next end."""
    size = profile.size_at(root)
    a, b = profile.holds(root)
    return a - size.over(root), size * 2, b - size * root


def worth_never_less(one, other):
    """Whether the worth of one is at least that of other at all root prices."""
    return worth_less_at(one, other) is None


def worth_less_at(one, other):
    """A root price at which the worth of one is less than that of other, and None if there is none."""
    ends = ascending(one.ends() + other.ends())
    # Below all ends both worths are multiples of s s, and from the last one on they do not change. Between two ends
    # the difference is a quadratic polynomial, which is least at one of them or at its turning point.
    for start, end in zip(ends, ends[1:]):
        for root in [start, end] + turning(numbers_from(one, start), numbers_from(other, start)):
            if is_positive(root) and worth(one, root) < worth(other, root):
                return root
    return None


def turning(one, other):
    """The list of the root price at which the numbers (p, q, r) of one are least above those of other."""
    bend = one[0] - other[0]
    return [(other[1] - one[1]).over(bend * 2)] if is_positive(bend) else []


# The worth has the slope 2 s a at the root price s, where a is how much of the good a the positions hold there: it
# falls with s. So what fees, or a share of the goods that are kept, are worth above the lag has the slope 2 s times a
# number that falls with s. Thus it first rises and then falls, and is least at the lowest or the highest root price.


def lag_at_most(profile, root, share, low, high):
    """Whether the lag is at most a share of the goods that are kept, at all root prices from low to high."""
    return lag_above_at(profile, root, share, low, high) is None


def lag_above_at(profile, root, share, low, high):
    """A root price from low to high at which the lag is more than a share of the goods that are kept, or None."""
    bounds = bounds_of(root, low, high)
    if not is_number(share) or as_ratio(share) < 0 or not as_ratio(share) <= 1:
        raise BadShare(share)
    for end in bounds:
        if kept_worth(profile, root, end) * share < lag(profile, root, end):
            return end
    return None


def bounds_of(root, low, high):
    """The list of low and high, if all three are root prices and these two are in their order."""
    _, least, greatest = as_root(root), as_root(low), as_root(high)
    if greatest < least:
        raise BadRange()
    return [least, greatest]


def break_even(profile, root, a, b, low, high):
    """Whether fees make up for the lag at all root prices from low to high."""
    return loss_at(profile, root, a, b, low, high) is None


def loss_at(profile, root, a, b, low, high):
    """A root price from low to high at which the fees are worth less than the lag, and None if there is none."""
    bounds = bounds_of(root, low, high)
    fee_a, fee_b = as_amount(a), as_amount(b)
    for end in bounds:
        if end * end * fee_a + fee_b < lag(profile, root, end):
            return end
    return None
