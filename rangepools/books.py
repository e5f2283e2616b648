"""The books of a house: its pools, the owners of positions, purses, and what was paid in; and the steps in them.

A step is made in a copy of the books, which is dropped if it raises an error. So it may change what it likes.
"""

from rangepools.errors import BadName, BadText, InUse, NoPool, NoPosition, Short
from rangepools.keepers import Keeper
from rangepools.names import as_name, ascending_names
from rangepools.pools import as_amount
from rangepools.ratios import Ratio, as_ratio
from rangepools.webs import Web, send, side_of


class Books:
    """What stands in a house at some time."""

    def __init__(self):
        self.joints = {}        # the goods and the keeper of each pool: (good, other, keeper)
        self.owners = {}        # the person for each (pool, name) of a position
        self.purses = {}        # for each person the dict of amounts by goods
        self.paid_in = {}       # the amounts by goods

    def twin(self):
        """Other books that stand the same."""
        other = Books()
        other.joints = {pool: (good, second, keeper.twin()) for pool, (good, second, keeper) in self.joints.items()}
        other.owners = {place: self.owners[place] for place in self.owners}
        other.purses = {person: dict(self.purses[person]) for person in self.purses}
        other.paid_in = dict(self.paid_in)
        return other


def joint_of(books, pool):
    """The tuple (good, other, keeper) of a pool."""
    if not isinstance(pool, str) or pool not in books.joints:
        raise NoPool(pool)
    return books.joints[pool]


def keeper_of(books, pool):
    """The keeper of a pool."""
    _, _, keeper = joint_of(books, pool)
    return keeper


def owner_of(books, pool, name):
    """The person who opened a position."""
    keeper_of(books, pool).position(name)
    return books.owners[(pool, name)]


def purse_of(books, person):
    """The dict of what a person has, by goods in ascending order."""
    if not isinstance(person, str):
        return {}
    return in_order(books.purses.get(person, {}))


def in_order(amounts):
    """The dict of the amounts that are not 0, by goods in ascending order."""
    return {good: amounts[good] for good in ascending_names(amounts) if amounts[good] != 0}


def web_of(books):
    """The web of the pools as they stand."""
    return Web({pool: (good, other, keeper.pool()) for pool, (good, other, keeper) in books.joints.items()})


def present_in(books):
    """The dict of what is in all purses and all pools in sum, by goods in ascending order."""
    found = {}
    for person in books.purses:
        for good, amount in books.purses[person].items():
            put(found, good, amount)
    for good, other, keeper in books.joints.values():
        a, b = keeper.holds()
        put(found, good, a)
        put(found, other, b)
    return in_order(found)


def put(amounts, good, amount):
    """Make an amount of a dict greater."""
    amounts[good] = amounts.get(good, Ratio(0)) + amount


def give(books, person, good, amount):
    """Put an amount of a good into the purse of a person."""
    put(books.purses.setdefault(person, {}), good, amount)


def take(books, person, good, amount):
    """Take an amount of a good out of the purse of a person."""
    if books.purses.get(person, {}).get(good, Ratio(0)) < amount:
        raise Short(person)
    give(books, person, good, Ratio(0) - amount)


def add_step(books, pool, good, other, root, fee):
    """Add a pool without positions."""
    for name in (pool, good, other):
        as_name(name)
    if other == good:
        raise BadName(other)
    if pool in books.joints:
        raise InUse(pool)
    books.joints[pool] = (good, other, Keeper(root, fee))


def pay_step(books, person, good, amount):
    """Give an amount of a good to a person, from outside of the house."""
    as_name(person)
    as_name(good)
    given = as_amount(amount)
    give(books, person, good, given)
    put(books.paid_in, good, given)


def bring_in(books, person, pool, pair):
    """Take the goods of a pool out of the purse of a person."""
    good, other, _ = joint_of(books, pool)
    take(books, person, good, pair[0])
    take(books, person, other, pair[1])
    return pair


def give_out(books, person, pool, pair):
    """Put the goods of a pool into the purse of a person."""
    good, other, _ = joint_of(books, pool)
    give(books, person, good, pair[0])
    give(books, person, other, pair[1])
    return pair


def lend_step(books, person, pool, name, low, high, size):
    """Open a position."""
    as_name(person)
    brought_in = keeper_of(books, pool).lend(name, low, high, size)
    books.owners[(pool, name)] = person
    return bring_in(books, person, pool, brought_in)


def own_keeper(books, person, pool, name):
    """The keeper of a pool in which a person has opened a position."""
    as_name(person)
    if owner_of(books, pool, name) != person:
        raise NoPosition(name)
    return keeper_of(books, pool)


def grow_step(books, person, pool, name, size):
    """Make the size of a position greater."""
    return bring_in(books, person, pool, own_keeper(books, person, pool, name).grow(name, size))


def lessen_step(books, person, pool, name, size):
    """Make the size of a position less."""
    return give_out(books, person, pool, own_keeper(books, person, pool, name).lessen(name, size))


def collect_step(books, person, pool, name):
    """Give out the fees of a position."""
    return give_out(books, person, pool, own_keeper(books, person, pool, name).collect(name))


def close_step(books, person, pool, name):
    """Give out all of a position and forget it."""
    given_out = own_keeper(books, person, pool, name).close(name)
    del books.owners[(pool, name)]
    return give_out(books, person, pool, given_out)


def trade_step(books, person, pool, good, amount):
    """Put an amount of a good into a pool; the tuple (other, taken, left)."""
    as_name(person)
    first, second, keeper = joint_of(books, pool)
    letter, other = side_of(first, second, good)
    take(books, person, good, as_amount(amount))
    taken, left = keeper.trade(letter, amount)
    give(books, person, other, taken)
    give(books, person, good, left)
    return other, taken, left


def send_step(books, person, start, route, amount):
    """Do the trades of a route; what is taken in the last one."""
    as_name(person)
    # The web raises an error unless this is a route that gives nothing back.
    send(web_of(books), start, route, amount)
    take(books, person, start, amount)
    good, taken = start, as_ratio(amount)
    for pool in route:
        first, second, keeper = joint_of(books, pool)
        letter, good = side_of(first, second, good)
        taken, _ = keeper.trade(letter, taken)
    give(books, person, good, taken)
    return taken


STEPS = {"add": add_step, "pay": pay_step, "lend": lend_step, "grow": grow_step, "lessen": lessen_step,
         "collect": collect_step, "close": close_step, "trade": trade_step, "send": send_step}
# What stands behind each word in a line: w is a word as it is, n a number, r a route.
FORMS = {"add": "wwwnn", "pay": "wwn", "lend": "wwwnnn", "grow": "wwwn", "lessen": "wwwn", "collect": "www",
         "close": "www", "trade": "wwwn", "send": "wwrn"}


def make_step(books, word, values):
    """Make a step in the books; what the method with this word returns."""
    step = STEPS[word]
    return step(books, *values)


def step_line(word, values):
    """The line of a step that has been made."""
    return " ".join([word] + [value_text(value) for value in values])


def value_text(value):
    """A name, a route or a number in a line."""
    if isinstance(value, str):
        return value
    if isinstance(value, (list, tuple)):
        return ",".join(value)
    return as_ratio(value).text()


def read_step(line):
    """The tuple (word, values) of the step with a line."""
    parts = line.split(" ")
    form = FORMS.get(parts[0], "")
    if form == "" or len(form) != len(parts) - 1:
        raise BadText()
    return parts[0], [read_value(kind, part) for kind, part in zip(form, parts[1:])]


def read_value(kind, part):
    """A name, a route or a number with a text."""
    if kind == "n":
        return Ratio.read(part)
    return part.split(",") if kind == "r" else part
