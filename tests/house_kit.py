"""What the tests of houses use: a house reckoned with plain ledgers and plain purses, and random steps."""

from fractions import Fraction

from kit import Ledger, fraction, fractions, letter_of, random_fraction, random_keeper_deed, ratio, texts
from rangepools.house import House
from rangepools.ratios import Ratio


def filled():
    """The house of most tests: two pools, three people, two positions, and a trade of which both have fees."""
    house = House()
    house.add("one", "oil", "salt", 2, Ratio(1, 10))
    house.add("two", "salt", "tin", 2, 0)
    for person in ("ann", "bob", "cid"):
        for good in ("oil", "salt", "tin"):
            house.pay(person, good, 100)
    house.lend("ann", "one", "low", 1, 4, 6)
    house.lend("bob", "one", "high", 2, 5, 3)
    house.lend("ann", "two", "low", 1, 4, 6)
    house.trade("cid", "one", "salt", 10)
    return house


def shown(amounts):
    """A dict of amounts as texts, in its order."""
    assert isinstance(amounts, dict)
    return list(zip(amounts, texts(amounts.values())))


def stands(house):
    """All that can be seen of a house without changing it."""
    web = house.web()
    positions = []
    for pool in web.names():
        good, other, made = web.joins(pool)
        stretches = [texts(stretch) for stretch in made.profile.stretches()]
        positions.append((pool, good, other, made.root.text(), made.fee.text(), stretches))
        for name in ("ann", "bob", "cid", "dot", "eva", "fay", "high", "low"):
            try:
                positions.append((pool, name, house.owner(pool, name), texts(house.fees(pool, name))))
            except ValueError:
                pass
    purses = [(person, shown(house.purse(person))) for person in ("ann", "bob", "cid", "dot")]
    return house.text(), len(house), positions, purses, shown(house.paid()), shown(house.present())


def history(house):
    """How many steps can be taken back and made again, and the text behind each; nothing of the house is changed."""
    found = []
    with house.trial():
        while True:
            try:
                house.redo()
            except ValueError:
                break
        while len(house) > 0:
            found.append(house.text())
            house.undo()
    return found


class PlainHouse:
    """A house, reckoned with plain ledgers and plain purses."""

    def __init__(self):
        self.pools, self.owners, self.purses, self.paid = {}, {}, {}, {}

    def twin(self):
        other = PlainHouse()
        other.pools = {name: (good, second, ledger.twin()) for name, (good, second, ledger) in self.pools.items()}
        other.owners, other.paid = dict(self.owners), dict(self.paid)
        other.purses = {person: dict(purse) for person, purse in self.purses.items()}
        return other

    def has(self, person, good):
        return self.purses.get(person, {}).get(good, Fraction(0))

    def move(self, person, good, amount):
        self.purses.setdefault(person, {})[good] = self.has(person, good) + amount
        assert self.has(person, good) >= 0

    def add(self, pool, good, other, root, fee):
        self.pools[pool] = good, other, Ledger(root, fee)

    def pay(self, person, good, amount):
        self.move(person, good, amount)
        self.paid[good] = self.paid.get(good, 0) + amount

    def deed(self, sign, word, person, pool, *values):
        good, other, ledger = self.pools[pool]
        a, b = getattr(ledger, word)(*values)
        self.move(person, good, sign * a)
        self.move(person, other, sign * b)
        return a, b

    def lend(self, person, pool, name, *values):
        self.owners[pool, name] = person
        return self.deed(-1, "lend", person, pool, name, *values)

    def grow(self, *values):
        return self.deed(-1, "grow", *values)

    def lessen(self, *values):
        return self.deed(1, "lessen", *values)

    def collect(self, *values):
        return self.deed(1, "collect", *values)

    def close(self, person, pool, name):
        del self.owners[pool, name]
        return self.deed(1, "close", person, pool, name)

    def trade(self, person, pool, good, amount):
        letter, other = letter_of(self.pools, pool, good)
        taken, left = self.pools[pool][2].trade(letter, amount)
        self.move(person, good, -amount)
        self.move(person, good, left)
        self.move(person, other, taken)
        return other, taken, left

    def send(self, person, start, route, amount):
        good, taken = start, amount
        for pool in route:
            letter, other = letter_of(self.pools, pool, good)
            taken, left = self.pools[pool][2].trade(letter, taken)
            if left > 0:
                return None
            good = other
        self.move(person, start, -amount)
        self.move(person, good, taken)
        return taken

    def purse(self, person):
        return in_order(self.purses.get(person, {}))

    def present(self):
        found = {}
        for purse in self.purses.values():
            for good, amount in purse.items():
                found[good] = found.get(good, 0) + amount
        for good, other, ledger in self.pools.values():
            a, b = ledger.holds()
            found[good], found[other] = found.get(good, 0) + a, found.get(other, 0) + b
        return in_order(found)


def in_order(amounts):
    return {good: amounts[good] for good in sorted(amounts) if amounts[good] != 0}


def plain(amounts):
    return {good: fraction(number) for good, number in amounts.items()}


def random_step(chance, house):
    """Some step in a plain house, as a tuple in fractions, which may be too much for a purse."""
    goods, people = ["oil", "salt", "tin"], ["ann", "bob", "cid"]
    if len(house.pools) < 2 or chance.random() < 0.05:
        free = [name for name in ("one", "six", "ten", "two") if name not in house.pools]
        if free:
            return ("add", free[0], *chance.sample(goods, 2), random_fraction(chance), chance.choice([Fraction(0), Fraction(1, 10)]))
    person = chance.choice(people)
    if chance.random() < 0.3:
        return "pay", person, chance.choice(goods), random_fraction(chance) * chance.choice([0, 20, 500, 500])
    pool = chance.choice(sorted(house.pools))
    if chance.random() < 0.15:
        route = chance.sample(sorted(house.pools), min(len(house.pools), chance.randint(1, 3)))
        return "send", person, chance.choice(house.pools[route[0]][:2]), route, random_fraction(chance) / 6
    ledger = house.pools[pool][2]
    own = [name for name in ledger.places if house.owners[pool, name] == person]
    word, *values = random_keeper_deed(chance, own, lambda name: ledger.places[name][2])
    if word == "trade":
        return "trade", person, pool, house.pools[pool]["ab".index(values[0])], values[1]
    return (word, person, pool, *values)


def asked(values):
    """The values of a step as they are passed to a house."""
    return [ratio(value) if isinstance(value, Fraction) else value for value in values]


def told(found):
    """What a method of a house returns, in fractions."""
    if isinstance(found, Ratio):
        return fraction(found)
    if isinstance(found, tuple) and isinstance(found[0], str):
        return (found[0], *fractions(found[1:]))
    return tuple(fractions(found)) if isinstance(found, tuple) else found


