"""Webs of pools that join goods, and routes through them."""

from rangepools.compare import best_for, less_at
from rangepools.curves import chain_of
from rangepools.errors import BadRoute, BadWeb, NoGood, NoPool, TooMuch
from rangepools.names import as_name, ascending_names, is_name
from rangepools.pools import Pool, as_amount, rate, trade


class Web:
    """Pools by their names, each with the two goods that it joins."""

    def __init__(self, pools):
        for name in pools:
            as_name(name)
        for name in pools:
            if not is_joint(pools[name]):
                raise BadWeb(name)
        self._pools = {name: pools[name] for name in ascending_names(pools)}

    def __len__(self):
        return len(self._pools)

    def __eq__(self, other):
        return isinstance(other, Web) and self._pools == other._pools

    def names(self):
        """The ascending list of the names of the pools."""
        return list(self._pools)

    def goods(self):
        """The ascending list of the goods."""
        joints = [self._pools[name] for name in self._pools]
        return ascending_names([good for good, _, _ in joints] + [other for _, other, _ in joints])

    def joins(self, name):
        """The tuple (good, other, pool) of the pool with a name."""
        if not isinstance(name, str) or name not in self._pools:
            raise NoPool(name)
        return self._pools[name]

    def trade(self, name, good, amount):
        """The tuple (web, other, taken, left) of a trade in which an amount of a good is put into a pool."""
        first, second, pool = self.joins(name)
        letter, other = side_of(first, second, good)
        after, taken, left = trade(pool, letter, amount)
        return Web({**self._pools, name: (first, second, after)}), other, taken, left

    def rate(self, name, good):
        """The rate of a pool for a good, and None if nothing can be put in."""
        first, second, pool = self.joins(name)
        letter, _ = side_of(first, second, good)
        return rate(pool, letter)


def is_joint(given):
    """Whether a value is a tuple of the names of two different goods and a pool."""
    if not isinstance(given, tuple) or len(given) != 3:
        return False
    good, other, pool = given
    return is_name(good) and is_name(other) and good != other and isinstance(pool, Pool)


def side_of(first, second, good):
    """The tuple (letter, other) for one of the two goods of a pool: its letter there, and the other good."""
    if good == first:
        return "a", second
    if good == second:
        return "b", first
    raise NoGood(good)


def other_good(web, name, good):
    """The good to which a pool leads from one of its two goods."""
    first, second, _ = web.joins(name)
    _, other = side_of(first, second, good)
    return other


def leads_to(web, start, route):
    """The good to which a route leads."""
    name, good = trades_along(web, start, route)[-1]
    return other_good(web, name, good)


def trades_along(web, start, route):
    """The list of tuples (name, good) of the pools of a route, each with the good that is put into it."""
    ask_for_good(web, start)
    if not isinstance(route, (list, tuple)) or len(route) == 0:
        raise BadRoute()
    made = []
    good = start
    for name in route:
        if name not in web.names() or name in [used for used, _ in made] or good not in web.joins(name)[:2]:
            raise BadRoute()
        made.append((name, good))
        good = other_good(web, name, good)
    return made


def ask_for_good(web, good):
    """Raise an error unless a value is a good of a web."""
    if good not in web.goods():
        raise NoGood(good)


def routes(web, start, end):
    """The list of all routes from one good to another that come to no good twice, the shorter ones first."""
    ask_for_good(web, start)
    ask_for_good(web, end)
    if start == end:
        raise BadRoute()
    found = []
    # All ways of one length, in ascending order: each is the names of the pools, and the goods that they come to.
    ways = [([], [start])]
    while ways:
        found.extend([names for names, goods in ways if goods[-1] == end])
        ways = [longer for names, goods in ways if goods[-1] != end for longer in longer_ways(web, names, goods)]
    return found


def longer_ways(web, names, goods):
    """The ways that go on from a way to one more good."""
    longer = []
    for name in web.names():
        if goods[-1] in web.joins(name)[:2]:
            other = other_good(web, name, goods[-1])
            if other not in goods:
                longer.append((names + [name], goods + [other]))
    return longer


def route_curve(web, start, route):
    """The curve of putting an amount into the first pool of a route, what is taken into the second one, and so on."""
    return curve_along(web, trades_along(web, start, route))


def curve_along(web, trades):
    """The curve of a list of trades (name, good), each of what is taken in the one ahead of it."""
    letters = []
    for name, good in trades:
        first, second, _ = web.joins(name)
        letters.append(side_of(first, second, good)[0])
    return chain_of([web.joins(name)[2] for name, _ in trades], "".join(letters))


def send(web, start, route, amount):
    """The tuple (web, taken) of the web behind the trades of a route, and of what is taken in the last one."""
    trades = trades_along(web, start, route)
    taken = as_amount(amount)
    if curve_along(web, trades).end() < taken:
        raise TooMuch()
    after = web
    for name, good in trades:
        after, _, taken, _ = after.trade(name, good, taken)
    return after, taken


def best_route(web, start, end, amount):
    """The tuple (route, taken) of the first route that gives most for an amount, and None if none takes it all."""
    found = routes(web, start, end)
    best = best_for([route_curve(web, start, route) for route in found], amount)
    if best is None:
        return None
    index, taken = best
    return found[index], taken


def is_best_route(web, start, end, route):
    """Whether no other route gives more for any amount."""
    return better_route(web, start, end, route) is None


def better_route(web, start, end, route):
    """The tuple (route, amount) of another route and an amount for which it gives more, and None if there is none."""
    found = routes(web, start, end)
    if not isinstance(route, (list, tuple)) or list(route) not in found:
        raise BadRoute()
    curve = route_curve(web, start, route)
    for other in found:
        amount = better_at(route_curve(web, start, other), curve)
        if amount is not None:
            return other, amount
    return None


def better_at(one, other):
    """An amount for which one tells more than other, or other has ended, and None if there is none."""
    amount = less_at(other, one)
    if amount is None and other.end() < one.end():
        return one.end()
    return amount
