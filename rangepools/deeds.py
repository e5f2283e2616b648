"""Deeds in keepers, as tuples of a word and further values, and whether their order plays a role."""

from rangepools.errors import BadDeed, PoolError
from rangepools.keepers import Keeper
from rangepools.pools import Pool, as_amount, as_good, to_root
from rangepools.profiles import Position, Profile
from rangepools.ratios import Ratio, as_ratio, greater, is_positive, lesser, total

# The words of deeds, and how many values stand behind each.
COUNTS = {"trade": 2, "lend": 4, "grow": 2, "lessen": 2, "collect": 1, "close": 1}


def is_deed(given):
    """Whether a value is a tuple of a word and as many values as belong to it."""
    if not isinstance(given, tuple) or len(given) == 0 or not isinstance(given[0], str):
        return False
    return COUNTS.get(given[0]) == len(given) - 1


def ask_for_deed(deed):
    """Raise an error unless a value is a deed."""
    if not is_deed(deed):
        raise BadDeed(deed)


def do_deed(keeper, deed):
    """Do a deed in a keeper; the tuple (a, b) of what it gives out less what is brought in."""
    ask_for_deed(deed)
    word, *values = deed
    if word == "trade":
        return do_trade(keeper, *values)
    if word == "lend":
        return opposite(keeper.lend(*values))
    if word == "grow":
        return opposite(keeper.grow(*values))
    if word == "lessen":
        return keeper.lessen(*values)
    if word == "collect":
        return keeper.collect(*values)
    return keeper.close(*values)


def do_trade(keeper, good, amount):
    """Let a trade come about; the tuple (a, b) of what it gives out less what is put in."""
    taken, left = keeper.trade(good, amount)
    if good == "a":
        return left - amount, taken
    return taken, left - amount


def opposite(pair):
    """The tuple of the opposite numbers."""
    a, b = pair
    return -a, -b


def after_deeds(keeper, deeds):
    """The tuple (keeper, given) of a copy in which deeds have been done, and of the list of what they give."""
    after = keeper.twin()
    given = [do_deed(after, deed) for deed in deeds]
    return after, given


def agree(one, other):
    """Whether two keepers have the same root price, fee, names, positions and fees."""
    pool, other_pool = one.pool(), other.pool()
    return pool.root == other_pool.root and pool.fee == other_pool.fee and places_of(one) == places_of(other)


def places_of(keeper):
    """The dict from the names of a keeper to their positions and fees."""
    return {name: (keeper.position(name), keeper.fees(name)) for name in keeper.names()}


def given_in_sum(given):
    """The tuple of the sums of the first and of the second numbers of tuples."""
    return total([a for a, _ in given]), total([b for _, b in given])


def change_places(keeper, one, other):
    """Whether two deeds can change places in a keeper."""
    ways = both_ways(keeper, one, other)
    return ways is not None and ways[0] == ways[1]


def change_in_sum(keeper, one, other):
    """Whether two deeds can change places in a keeper but for what each of them gives, if they give the same in sum."""
    ways = both_ways(keeper, one, other)
    return ways is not None and given_in_sum(ways[0]) == given_in_sum(ways[1])


def both_ways(keeper, one, other):
    """What two deeds give, in their own order, if one is done first and if other is.

    None if an error is raised in one of the two orders, or if the keepers do not agree afterwards.
    """
    ask_for_deed(one)
    ask_for_deed(other)
    try:
        after, given = after_deeds(keeper, [one, other])
        after_turned, given_turned = after_deeds(keeper, [other, one])
    except PoolError:
        return None
    if not agree(after, after_turned):
        return None
    return given, given_turned[::-1]


def always_change(one, other):
    """Whether two sound deeds can change places in every keeper in which neither order raises an error."""
    return against_change(one, other) is None


def against_change(one, other):
    """Deeds behind which two sound deeds cannot change places although neither order raises an error, or None."""
    for deed in (one, other):
        if not is_sound(deed):
            raise BadDeed(deed)
    if one[0] == "collect" and other[0] == "collect" and one[1] == other[1]:
        return deeds_before(one) + [("trade", "b", Ratio(1))]
    if not moves_root(one) and not moves_root(other):
        return None
    if one[0] == "trade" and other[0] == "trade":
        both_move = moves_root(one) and moves_root(other)
        return [position_for("x", 1)] if both_move else None
    still = other if one[0] == "trade" else one
    return around_range(still) if still[0] == "lend" else deeds_before(still)


def is_sound(deed):
    """Whether a value is a deed that raises no error in some keeper."""
    if not is_deed(deed):
        return False
    try:
        after_deeds(Keeper(2, Ratio(1, 10)), deeds_before(deed) + [deed])
    except PoolError:
        return False
    return True


def moves_root(deed):
    """Whether a sound deed is a trade of an amount above 0."""
    return deed[0] == "trade" and is_positive(deed[2])


def deeds_before(deed):
    """The deeds behind which there is the position that a deed asks for; it holds both goods at the root price 2."""
    if deed[0] in ("trade", "lend"):
        return []
    return [position_for(deed[1], deed[2] if deed[0] == "lessen" else 1)]


def position_for(name, size):
    """The deed that opens a position around the root price 2."""
    return "lend", name, Ratio(1), Ratio(4), as_ratio(size)


def around_range(lend):
    """The deeds behind which the root price is in the middle of the range of a position to be opened.

    Another position has a size on both sides of it, so that each trade moves it and changes what must be brought in.
    """
    _, name, low, high, _ = lend
    below, beyond = lesser(low, 2).over(2), greater(high, 2) * 2
    profile = Profile([Position(below, beyond, 1)])
    good, amount, _ = to_root(Pool(profile, 2, Ratio(1, 10)), (as_ratio(low) + high).over(2))
    helper = "y" if name == "x" else "x"
    return [("lend", helper, below, beyond, Ratio(1)), ("trade", good, amount)]


def same_direction(one, other):
    """Whether two deeds are trades of the same good."""
    return is_trade_of_good(one) and is_trade_of_good(other) and one[1] == other[1]


def is_trade_of_good(deed):
    """Whether a value is a deed that puts in one of the two goods."""
    return is_deed(deed) and deed[0] == "trade" and deed[1] in ("a", "b")


def in_one(deeds):
    """The list of deeds with one trade of the sum of the amounts for each run of neighbouring trades of one good."""
    joined = []
    for deed in deeds:
        ask_for_deed_in_one(deed)
        if deed[0] != "trade":
            joined.append(deed)
            continue
        good, amount = deed[1], as_ratio(deed[2])
        if joined and same_direction(joined[-1], deed):
            amount = joined.pop()[2] + amount
        joined.append(("trade", good, amount))
    return joined


def ask_for_deed_in_one(deed):
    """Raise an error unless a value is a deed, and if it is a trade, one with a good and an amount."""
    ask_for_deed(deed)
    if deed[0] != "trade":
        return
    try:
        as_good(deed[1])
        as_amount(deed[2])
    except PoolError:
        raise BadDeed(deed) from None
