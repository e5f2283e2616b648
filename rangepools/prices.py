"""Fair prices for the goods of a web, rows of trades, and rings of pools that gain."""

from rangepools.compare import above
from rangepools.errors import BadPrices, BadRing
from rangepools.names import ascending_names
from rangepools.pools import as_amount
from rangepools.ratios import Ratio, as_ratio, greater, is_positive, total
from rangepools.webs import curve_along, other_good


def are_fair(web, prices):
    """Whether no rate of a pool beats the prices."""
    ask_for_prices(web.goods(), prices)
    return not any([as_ratio(prices[good]) < rate * prices[other] for good, other, rate in rates_of(web)])


def ask_for_prices(goods, prices):
    """Raise an error unless a value is a dict with a number above 0 for each of some goods, and no other keys."""
    if not isinstance(prices, dict) or len(prices) != len(goods):
        raise BadPrices()
    if not all([good in prices and is_positive(prices[good]) for good in goods]):
        raise BadPrices()


def rates_of(web):
    """The list of tuples (good, other, rate) of all pools and goods that have a rate."""
    rates = []
    for name in web.names():
        first, second, _ = web.joins(name)
        for good, other in ((first, second), (second, first)):
            rate = web.rate(name, good)
            if rate is not None:
                rates.append((good, other, rate))
    return rates


def fair_prices(web):
    """A dict of fair prices, and None if there are none."""
    if gaining_ring(web) is not None:
        return None
    goods = web.goods()
    rates = rates_of(web)
    # As no ring gains, each good has a greatest worth: what one unit of it becomes on some way that comes to no
    # good twice, so after fewer trades than there are goods.
    prices = {good: Ratio(1) for good in goods}
    for _ in goods:
        for good, other, rate in rates:
            prices[good] = greater(prices[good], rate * prices[other])
    return prices


def gaining_ring(web):
    """A ring that gains, and None if there is none."""
    for ring in rings(web):
        if ring_gains(web, ring):
            return ring
    return None


def is_ring(web, ring):
    """Whether a list of tuples is a ring of a web."""
    if not isinstance(ring, (list, tuple)) or len(ring) < 2 or not all([is_trade(web, one) for one in ring]):
        return False
    names, goods = [name for name, _ in ring], [good for _, good in ring]
    if len(ascending_names(names)) < len(ring) or len(ascending_names(goods)) < len(ring):
        return False
    return [other_good(web, name, good) for name, good in ring] == goods[1:] + goods[:1]


def is_trade(web, given):
    """Whether a value is a tuple of the name of a pool and one of its goods."""
    if not isinstance(given, tuple) or len(given) != 2:
        return False
    name, good = given
    return name in web.names() and good in web.joins(name)[:2]


def ask_for_ring(web, ring):
    """Raise an error unless a list is a ring of a web."""
    if not is_ring(web, ring):
        raise BadRing()


def ring_gains(web, ring):
    """Whether the product of the rates of a ring is greater than 1."""
    ask_for_ring(web, ring)
    product = Ratio(1)
    for name, good in ring:
        rate = web.rate(name, good)
        if rate is None:
            return False
        product = product * rate
    return Ratio(1) < product


def ring_curve(web, ring):
    """The curve of putting an amount of the first good into a ring and going once round."""
    ask_for_ring(web, ring)
    return curve_along(web, ring)


def ring_amount(web, ring):
    """An amount of which a ring makes more, and None if there is none."""
    return above(ring_curve(web, ring), 0)


def traded(web, trades):
    """The tuple (web, changes) of the web behind trades (name, good, amount), and of what the trader has more."""
    after = web
    changes = {good: Ratio(0) for good in web.goods()}
    for name, good, amount in trades:
        after, other, taken, left = after.trade(name, good, amount)
        changes[good] = changes[good] + left - amount
        changes[other] = changes[other] + taken
    return after, changes


def has_gained(changes):
    """Whether there is nothing less, and something more."""
    numbers = [as_ratio(changes[good]) for good in changes]
    return not any([number < 0 for number in numbers]) and any([is_positive(number) for number in numbers])


def value_of(changes, prices):
    """The sum of the changes, each multiplied by the price of the good."""
    ask_for_prices(list(changes), prices)
    return total([as_ratio(changes[good]) * prices[good] for good in changes])


def rings(web):
    """The list of all rings, each beginning with its least good, the shorter ones first."""
    found = []
    # All rows of one length, in ascending order, that come to no good twice and to none below their first one.
    rows = [[(name, good)] for name in web.names() for good in ascending_names(web.joins(name)[:2])]
    while rows:
        found.extend([row for row in rows if next_good(web, row) == row[0][1]])
        rows = [longer for row in rows for longer in longer_rows(web, row)]
    return found


def next_good(web, row):
    """The good to which a row of tuples (name, good) leads."""
    name, good = row[-1]
    return other_good(web, name, good)


def longer_rows(web, row):
    """The rows that go on from a row with one more tuple."""
    good = next_good(web, row)
    if good <= row[0][1] or good in [passed for _, passed in row]:
        return []
    return [row + [(name, good)] for name in web.names() if good in web.joins(name)[:2]
            and name not in [used for used, _ in row]]


def ring_above(web, number):
    """The tuple (ring, amount) of a ring that makes of the amount more than it and a number, and None if none does."""
    further = as_amount(number)
    # Rings that gain nothing at all need not be looked at more closely.
    gaining = [ring for ring in rings(web) if ring_gains(web, ring)]
    for ring in gaining:
        for first in range(len(ring)):
            turned = ring[first:] + ring[:first]
            amount = above(ring_curve(web, turned), further)
            if amount is not None:
                return turned, amount
    return None
