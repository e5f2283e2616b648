"""Amounts that are split among several pools of the same two goods and the same fee."""

from rangepools.curves import curve_of
from rangepools.errors import BadSplit, TooMuch, UnlikeFees
from rangepools.pools import Pool, as_amount, as_good, level_of, most, parts_ahead, trade
from rangepools.profiles import Position, Profile
from rangepools.ratios import Ratio, greater, lesser, total

# In a best split all pools move on to the same root price, as far as they have a size there. So together they act
# like one pool, the union: it has all that lies ahead of each of them, and its root price is the one furthest behind.


def union_of(pools, good):
    """The pool that acts in the direction of a good like all pools in their best splits."""
    ask_for_alike(pools, good)
    ahead = [position for pool in pools for position in positions_ahead(pool, good)]
    root = pools[0].root
    for pool in pools:
        root = lesser(root, pool.root) if good == "b" else greater(root, pool.root)
    return Pool(Profile(ahead), root, pools[0].fee)


def ask_for_alike(pools, good):
    """Raise an error unless all fees are the same and a good is one."""
    if any([pool.fee != pools[0].fee for pool in pools]):
        raise UnlikeFees()
    as_good(good)


def positions_ahead(pool, good):
    """The list of positions that have the profile of a pool, in the direction of a good from its root price on."""
    ranges = [(level_of(good, start), level_of(good, end), size) for start, end, size in parts_ahead(pool, good)]
    return [Position(lesser(one, other), greater(one, other), size) for one, other, size in ranges]


def together_most(pools, good):
    """The sum of the greatest amounts of which the pools give nothing back."""
    return most(union_of(pools, good), good)


def best_split(pools, good, amount):
    """The split of an amount that has the greatest yield."""
    root = common_root(pools, good, amount)
    return [put_in_to(pool, good, root) for pool in pools]


def put_in_to(pool, good, root):
    """The amount that leads a pool to a root price, or 0 if this lies behind it."""
    (a, b), (a_then, b_then) = pool.profile.holds(pool.root), pool.profile.holds(root)
    net = a_then - a if good == "a" else b_then - b
    return greater(net, 0).over(Ratio(1) - pool.fee)


def best_yield(pools, good, amount):
    """The yield of a best split of an amount."""
    return union_trade(pools, good, amount)[1]


def common_root(pools, good, amount):
    """A common root price behind the best split of an amount."""
    return union_trade(pools, good, amount)[0].root


def union_trade(pools, good, amount):
    """The tuple (pool, taken) of a trade of the union of which nothing is given back."""
    after, taken, left = trade(union_of(pools, good), good, amount)
    if left != 0:
        raise TooMuch()
    return after, taken


def yield_of(pools, good, split):
    """The yield of a split."""
    ask_for_alike(pools, good)
    amounts = [as_amount(amount) for amount in split]
    if len(amounts) != len(pools):
        raise BadSplit()
    made = [trade(pool, good, amount) for pool, amount in zip(pools, amounts)]
    if any([left != 0 for _, _, left in made]):
        raise TooMuch()
    return total([taken for _, taken, _ in made])


def is_best(pools, good, split):
    """Whether no other split of the same sum has a greater yield."""
    return better_split(pools, good, split) is None


def better_split(pools, good, split):
    """A split of the same sum with a greater yield, and None if there is none."""
    present = yield_of(pools, good, split)
    amount = total(split)
    if best_yield(pools, good, amount) == present:
        return None
    return best_split(pools, good, amount)


def union_curve(pools, good):
    """The curve of the best yield for each amount."""
    return curve_of(union_of(pools, good), good)
