"""Pools of two goods, and the trades that are made in them."""

from rangepools.errors import BadAmount, BadFee, BadGood, NoWay
from rangepools.pieces import amount_for, end_of, overlaid, told_in
from rangepools.profiles import as_root
from rangepools.ratios import Ratio, as_ratio, greater, is_number, lesser, total

# The level of a root price is for the good b the root price itself, and for the good a 1 divided by it. So the level
# rises in each trade, and both goods follow the same formulas: from the level u to the level v in a stretch with
# the size L, L (v - u) of the net amount is used up, and L (1/u - 1/v) of the other good is taken.


class Pool:
    """A profile with a root price and a fee."""

    def __init__(self, profile, root, fee):
        self._profile = profile
        self._root = as_root(root)
        if not is_number(fee) or as_ratio(fee) < 0 or not as_ratio(fee) < 1:
            raise BadFee(fee)
        self._fee = as_ratio(fee)

    @property
    def profile(self):
        """The profile of the positions."""
        return self._profile

    @property
    def root(self):
        """The present root price."""
        return self._root

    @property
    def fee(self):
        """The part of what is put in that is not exchanged."""
        return self._fee

    def __eq__(self, other):
        return (isinstance(other, Pool) and self._profile == other._profile and self._root == other._root
                and self._fee == other._fee)


def trade(pool, good, amount):
    """The tuple (pool, taken, left) of the pool behind a trade, what is taken, and what is given back."""
    made = steps(pool, good, amount)
    root = made[-1][1] if made else pool.root
    paid = total([step[3] for step in made])
    taken = total([step[4] for step in made])
    return Pool(pool.profile, root, pool.fee), taken, as_ratio(amount) - paid


def steps(pool, good, amount):
    """The list of the parts (start, end, size, paid, taken) of a trade in the stretches that have a size."""
    parts = parts_ahead(pool, good)
    rest = as_amount(amount) * net_share(pool)
    made = []
    for start, end, size in parts:
        if rest <= 0:
            break
        stop = lesser(end, start + rest.over(size))
        used = size * (stop - start)
        rest = rest - used
        paid, taken = used.over(net_share(pool)), size.over(start) - size.over(stop)
        made.append((level_of(good, start), level_of(good, stop), size, paid, taken))
    return made


def most(pool, good):
    """The greatest amount of which nothing is given back."""
    return paid_for(pool, parts_ahead(pool, good))


def needed(pool, good, wished):
    """The least amount for which so much of the other good is taken, and None if no amount is enough."""
    pieces = pieces_of(pool, good)
    return amount_for(pieces, as_amount(wished))


def rate(pool, good):
    """What is taken for each unit of a very small amount, and None if nothing can be put in."""
    parts = parts_ahead(pool, good)
    if not parts:
        return None
    start, _, _ = parts[0]
    return net_share(pool).over(start * start)


def to_root(pool, root):
    """The tuple (good, amount, taken) of the least trade behind which the pool has a root price."""
    wanted = as_root(root)
    if wanted == pool.root:
        return "b", Ratio(0), Ratio(0)
    good = "b" if pool.root < wanted else "a"
    goal = level_of(good, wanted)
    parts = [(start, lesser(end, goal), size) for start, end, size in parts_ahead(pool, good) if start < goal]
    # A trade ends within a stretch that has a size or where one ends, and never where only a gap has ended.
    if not parts or parts[-1][1] != goal:
        raise NoWay(root)
    taken = total([size.over(start) - size.over(end) for start, end, size in parts])
    return good, paid_for(pool, parts), taken


def alike(one, other):
    """Whether two pools take and give back the same for every row of trades."""
    if not one.profile.ends() and not other.profile.ends():
        return True
    if one.fee != other.fee or one.profile != other.profile:
        return False
    low, high = lesser(one.root, other.root), greater(one.root, other.root)
    return not any([greater(sized.low, low) < lesser(sized.high, high) for sized in one.profile.positions()])


def parting(one, other):
    """A list of one or two trades (good, amount) in the last of which two pools differ, and None if they act alike."""
    if alike(one, other):
        return None
    for good in ("b", "a"):
        amount = parting_amount(one, other, good)
        if amount is not None:
            return [(good, amount)]
    # All single trades are the same, so the fees are not: then the rates of the way back differ behind any trade.
    good, back = ("b", "a") if parts_ahead(one, "b") else ("a", "b")
    first = most(one, good)
    amount = parting_amount(trade(one, good, first)[0], trade(other, good, first)[0], back)
    return [(good, first), (back, amount)]


def parting_amount(one, other, good):
    """An amount for which two pools take or give back different amounts, and None if there is none."""
    pieces, others = pieces_of(one, good), pieces_of(other, good)
    for start, end, left, right in overlaid(pieces, others):
        if left[2:] != right[2:]:
            # Different pieces tell the same for two amounts at most, and one of them is the start.
            differ = told_in(left, end) != told_in(right, end)
            return end if differ else (start + end).over(2)
    if end_of(pieces) != end_of(others):
        return greater(end_of(pieces), end_of(others))
    return None


def pieces_of(pool, good):
    """The pieces of what is taken for each amount of which nothing is given back."""
    made = []
    paid = taken = Ratio(0)
    for start, end, size in parts_ahead(pool, good):
        p = taken + size.over(start)
        t = (size * start).over(net_share(pool)) - paid
        q = p * t - (size * size).over(net_share(pool))
        begun = paid
        paid = paid + paid_for(pool, [(start, end, size)])
        taken = p - size.over(end)
        made.append((begun, paid, p, q, t))
    return made


def parts_ahead(pool, good):
    """The list of the parts (start, end, size) that a trade can go through: levels, ascending, and sizes above 0."""
    now = level_of(as_good(good), pool.root)
    parts = [(level_of(good, one.low), level_of(good, one.high), one.size) for one in pool.profile.positions()]
    if good == "a":
        parts = [(high, low, size) for low, high, size in parts[::-1]]
    return [(greater(start, now), end, size) for start, end, size in parts if now < end]


def level_of(good, root):
    """The level of a root price for a good, or the root price of a level."""
    return root if good == "b" else Ratio(1).over(root)


def paid_for(pool, parts):
    """What is put in, the fee included, to go through parts."""
    return total([size * (end - start) for start, end, size in parts]).over(net_share(pool))


def net_share(pool):
    """The part of what is put in that is exchanged."""
    return Ratio(1) - pool.fee


def as_good(good):
    """The letter of a good as it is."""
    if good not in ("a", "b"):
        raise BadGood(good)
    return good


def as_amount(amount):
    """An amount as a Ratio."""
    if not is_number(amount) or as_ratio(amount) < 0:
        raise BadAmount(amount)
    return as_ratio(amount)
