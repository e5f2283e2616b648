"""What several tests use: another way to reckon, and values that are no numbers."""

from fractions import Fraction

from rangepools.curves import curve_of
from rangepools.pools import Pool
from rangepools.profiles import Position, Profile
from rangepools.ratios import Ratio
from rangepools.webs import Web

# Each is a value where a number may be asked, but none is one.
NO_NUMBERS = [True, False, None, "1", "1/2", "", [1], (1, 2), {1: 2}, [], {}]
NO_GOODS = [True, False, None, "", "A", "ab", "c", " a", 0, 1, Ratio(1), ["a"], ("b",), {"a": "b"}, [], {}]
NO_NAMES = [True, False, None, "", "abcdefghijklm", "A", "aB", "a1", "1", "a b", " a", "a\n", "a-b", "a_b", "\u00e9", "\u0430", 0, 1,
            Ratio(1), ["a"], ("a",), {"a": 1}, [], (), {}]
BELOW_0 = [-1, Ratio(-1, 2)]

BIG = 10 ** 59 + 7          # an integer of 60 digits
BIGGER = 10 ** 60 - 1       # the greatest one


def fraction(number):
    """The standard library's quotient that is equal to a Ratio."""
    assert isinstance(number, Ratio), number
    assert isinstance(number.top, int) and isinstance(number.bottom, int)
    return Fraction(number.top, number.bottom)


def fractions(numbers):
    return [fraction(number) for number in numbers]


def ratio(number):
    return Ratio(number.numerator, number.denominator)


def texts(numbers):
    for number in numbers:
        assert isinstance(number, Ratio), number
    return [number.text() for number in numbers]


def rows(tuples):
    for row in tuples:
        assert isinstance(row, tuple), row
    return [texts(row) for row in tuples]


def profile(*texts_of_positions):
    """The profile of the positions with some texts."""
    return Profile([Position.read(text) for text in texts_of_positions])


def random_fraction(random, least=1):
    return Fraction(random.randint(least, 12), random.choice([1, 1, 1, 2, 3, 5]))


def random_triple(random):
    """The low, the high and the size of some position."""
    low = random_fraction(random)
    return low, low + random_fraction(random), random_fraction(random)


def position(triple):
    low, high, size = triple
    return Position(ratio(low), ratio(high), ratio(size))


def size_at(triples, root):
    return sum((size for low, high, size in triples if low <= root < high), Fraction(0))


def size_below(triples, root):
    """The size just below a root price."""
    return sum((size for low, high, size in triples if low < root <= high), Fraction(0))


def ends_of(triples):
    """The root prices at which the size changes, as [4] says."""
    cuts = sorted({low for low, _, _ in triples} | {high for _, high, _ in triples})
    return [cut for cut in cuts if size_at(triples, cut) != size_below(triples, cut)]


def random_triples(random):
    """Some positions, often with equal ends and sizes."""
    if random.random() < 0.5:
        return [random_triple(random) for _ in range(random.randint(0, 5))]
    lows = [random.randint(1, 6) for _ in range(random.randint(0, 7))]
    return [(Fraction(low), Fraction(low + random.randint(1, 3)), Fraction(random.randint(1, 2))) for low in lows]


class Walk:
    """A trade, reckoned with the standard library from end to end of the positions, word by word as [5] says."""

    def __init__(self, triples, root, fee, good, amount):
        ends, net = ends_of(triples), (1 - fee) * amount
        self.root, self.taken, self.parts = root, Fraction(0), []
        while net > 0:
            ahead = [end for end in ends if (end > self.root if good == "b" else end < self.root)]
            if not ahead:
                break
            start, goal = self.root, min(ahead) if good == "b" else max(ahead)
            size = size_at(triples, min(start, goal))
            if size > 0:
                goal = self.stop(start, goal, size, good, net)
                rising, falling = size * abs(goal - start), size * abs(1 / goal - 1 / start)
                used, taken = (rising, falling) if good == "b" else (falling, rising)
                net -= used
                self.taken += taken
                self.parts.append((start, goal, size, used / (1 - fee), taken))
            self.root = goal
        self.left = net / (1 - fee)

    def stop(self, start, goal, size, good, net):
        if good == "b":
            return min(goal, start + net / size)
        return max(goal, 1 / (1 / start + net / size))


MORE_THAN_ALL = Fraction(10) ** 300
FEES = [Fraction(0), Fraction(0), Fraction(1, 10), Fraction(1, 4), Fraction(8, 9), 1 - Fraction(1, BIGGER)]


def made_pool(given):
    """The pool with some (positions, root price, fee)."""
    triples, root, fee = given
    return Pool(Profile([position(triple) for triple in triples]), ratio(root), ratio(fee))


def pool(*texts_of_positions, root, fee="0"):
    """The pool of the positions with some texts, a root price and a fee."""
    return Pool(profile(*texts_of_positions), Ratio.read(str(root)), Ratio.read(str(fee)))


def given_by(made):
    """The positions, the root price and the fee of a pool, as made_pool takes them."""
    triples = [tuple(fractions((one.low, one.high, one.size))) for one in made.profile.positions()]
    return triples, fraction(made.root), fraction(made.fee)


def random_given(random):
    """The (positions, root price, fee) of some pool; the root price lies anywhere, and often at an end."""
    triples = random_triples(random)
    ends = [end for low, high, _ in triples for end in (low, high)]
    root = random.choice(ends + [random_fraction(random), Fraction(1, 7), Fraction(40)])
    return triples, root, random.choice(FEES)


def most_of(given, good):
    return MORE_THAN_ALL - Walk(*given, good, MORE_THAN_ALL).left


def joints_of(given, good):
    """The amounts at which the parts of a trade of more than everything begin and end."""
    joints = [Fraction(0)]
    for part in Walk(*given, good, MORE_THAN_ALL).parts:
        joints.append(joints[-1] + part[3])
    return joints


def amounts_for(random, given, good):
    """Nothing, very little, exactly to each end, between them, and more than everything."""
    joints = joints_of(given, good)
    between = [one + (other - one) * Fraction(random.randint(1, 9), 10) for one, other in zip(joints, joints[1:])]
    return joints + between + [Fraction(1, BIGGER), joints[-1] + Fraction(1, BIGGER), joints[-1] * 2 + 1]


def random_curve(random):
    """The curve of some pool that takes something, with the (positions, root price, fee) and the good."""
    while True:
        given, good = random_given(random), random.choice("ab")
        if most_of(given, good) > 0:
            return curve_of(made_pool(given), good), given, good


def chain_told(givens, goods, amount):
    """What a chain of pools, one behind the other, gives for an amount, or None if one of them gives something back."""
    for given, good in zip(givens, goods):
        walk = Walk(*given, good, amount)
        if walk.left > 0:
            return None
        amount = walk.taken
    return amount


def held(place, root):
    """What a position (low, high, size) holds at a root price, as [3] says."""
    low, high, size = place
    met = min(max(root, low), high)
    return size * (1 / met - 1 / high), size * (met - low)


def pair_sum(pairs):
    return sum((a for a, _ in pairs), Fraction(0)), sum((b for _, b in pairs), Fraction(0))


class Ledger:
    """A keeper, reckoned with the standard library: the fee of each part of a trade between neighbouring ends of all
    positions is written down for each position, word by word as [5] and [41] say."""

    def __init__(self, root, fee):
        self.root, self.fee, self.places, self.fees = root, fee, {}, {}

    def twin(self):
        other = Ledger(self.root, self.fee)
        other.places, other.fees = dict(self.places), dict(self.fees)
        return other

    def lend(self, name, low, high, size):
        self.places[name], self.fees[name] = (low, high, size), (Fraction(0), Fraction(0))
        return held((low, high, size), self.root)

    def grow(self, name, size):
        low, high, present = self.places[name]
        self.places[name] = (low, high, present + size)
        return held((low, high, size), self.root)

    def lessen(self, name, size):
        self.grow(name, -size)
        return held(self.places[name][:2] + (size,), self.root)

    def collect(self, name):
        found, self.fees[name] = self.fees[name], (Fraction(0), Fraction(0))
        return found

    def close(self, name):
        return pair_sum([held(self.places.pop(name), self.root), self.fees.pop(name)])

    def trade(self, good, amount):
        walk = Walk(list(self.places.values()), self.root, self.fee, good, amount)
        cuts = {end for low, high, _ in self.places.values() for end in (low, high)}
        for start, goal, _, paid, _ in walk.parts:
            low, high = min(start, goal), max(start, goal)
            points = [low] + sorted(cut for cut in cuts if low < cut < high) + [high]
            for one, other in zip(points, points[1:]):
                whole, part = ((high - low, other - one) if good == "b" else (1 / low - 1 / high, 1 / one - 1 / other))
                self.share_out(good, one, self.fee * paid * part / whole)
        self.root = walk.root
        return walk.taken, walk.left

    def share_out(self, good, root, fee):
        inside = {name: size for name, (low, high, size) in self.places.items() if low <= root < high}
        for name, size in inside.items():
            share = fee * size / sum(inside.values())
            self.fees[name] = pair_sum([self.fees[name], (share, 0) if good == "a" else (0, share)])

    def holds(self):
        return pair_sum([held(place, self.root) for place in self.places.values()] + list(self.fees.values()))

    def given(self):
        """The positions, the root price and the fee, as made_pool takes them."""
        return [place for place in self.places.values() if place[2] > 0], self.root, self.fee


def random_keeper_deed(random, names, size_of):
    """Some deed of a keeper with some names, in fractions; size_of tells the size of a name, and 0 for others."""
    word = random.choice(["trade"] * 5 + ["lend"] * 3 + ["grow", "lessen", "lessen", "collect", "close"])
    if word == "trade":
        return word, random.choice("ab"), random.choice([Fraction(0), random_fraction(random), random_fraction(random) * 9])
    if word == "lend" or not names:
        free = [name for name in ("ann", "bob", "cid", "dot", "eva", "fay") if name not in names]
        if not free:
            return "collect", random.choice(names)
        low = Fraction(random.randint(1, 5), random.choice([1, 1, 2]))
        return "lend", random.choice(free), low, low + random.randint(1, 4), random_fraction(random)
    name = random.choice(names)
    if word == "grow":
        return word, name, random_fraction(random)
    if word == "lessen":
        share = random.choice([Fraction(1), Fraction(1), Fraction(1, 2), Fraction(2, 3)])
        return (word, name, size_of(name) * share) if size_of(name) > 0 else ("collect", name)
    return word, name


class Raises:
    """To be inherited beside TestCase: asks for an error of exactly one class, and for its value."""

    def raised(self, error, run, /, *arguments, **named):
        """The error of exactly this class that a call raises."""
        with self.assertRaises(error) as caught:
            run(*arguments, **named)
        self.assertIs(type(caught.exception), error)
        return caught.exception

    def names(self, error, value, run, /, *arguments, **named):
        """A call raises an error of exactly this class, which names a value."""
        found = self.raised(error, run, *arguments, **named).given
        self.assertEqual(found, value)
        self.assertIs(isinstance(found, bool), isinstance(value, bool))


# Webs for the standard library: dicts from names to (good, other, (positions, root price, fee)).


def made_web(given):
    return Web({name: (good, other, made_pool(numbers)) for name, (good, other, numbers) in given.items()})


def random_web_given(random, most_pools=6, goods=("oil", "salt", "tin", "wax")):
    """Some web, often with several pools between the same two goods, and often with pools alike."""
    found = {}
    names = random.sample(["ash", "b", "birch", "elm", "fir", "oak"], random.randint(1, most_pools))
    for name in names:
        good, other = random.sample(goods[:random.randint(2, len(goods))], 2)
        given = random.choice([random_given(random), near_given(random), near_given(random)])
        found[name] = good, other, random.choice([one[2] for one in found.values()] + [given] * 3)
    return found


def near_given(random):
    """The (positions, root price, fee) of some pool around the root price 2, so that many webs have no ring that gains."""
    low, root = Fraction(random.randint(1, 3), 2), Fraction(random.randint(7, 9), 4)
    triples = [(low, Fraction(random.randint(2, 5)), random_fraction(random)), (Fraction(1), Fraction(3), Fraction(1))]
    return triples, root, random.choice([Fraction(0), Fraction(1, 10), Fraction(1, 3)])


def letter_of(given, name, good):
    """The letter of a good in a pool, and the other good."""
    first, second, _ = given[name]
    return ("a", second) if good == first else ("b", first)


def told_along(given, trades, amount):
    """What a list of trades (name, good) gives for an amount, or None if one of them gives something back."""
    goods = "".join(letter_of(given, name, good)[0] for name, good in trades)
    return chain_told([given[name][2] for name, _ in trades], goods, amount)


def end_along(given, trades):
    """The greatest amount of which a list of trades gives nothing back."""
    least = None
    for name, good in reversed(trades):
        numbers, letter = given[name][2], letter_of(given, name, good)[0]
        joints = joints_of(numbers, letter)
        if least is None:
            least = joints[-1]
            continue
        # The amount of the pool ahead for which it gives this much: exactly, from the part in which it does.
        walk = Walk(*numbers, letter, MORE_THAN_ALL)
        least = put_in_for(walk.parts, letter, numbers[2], least)
    return least


def put_in_for(parts, letter, fee, wished):
    """The amount for which so much is taken, or all that can be put in."""
    paid = Fraction(0)
    for start, goal, size, part, taken in parts:
        if taken >= wished:
            stop = 1 / (1 / start - wished / size) if letter == "b" else start - wished / size
            used = size * (stop - start) if letter == "b" else size * (1 / stop - 1 / start)
            return paid + used / (1 - fee)
        paid, wished = paid + part, wished - taken
    return paid


def rate_of(given, good):
    """The rate, as [17] says, from the first part of a trade alone."""
    parts = Walk(*given, good, MORE_THAN_ALL).parts
    if not parts:
        return None
    start = parts[0][0]
    return (1 - given[2]) / start ** 2 if good == "b" else (1 - given[2]) * start ** 2
