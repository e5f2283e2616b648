"""What several tests use: another way to reckon, and values that are no numbers."""

from fractions import Fraction

from rangepools.curves import curve_of
from rangepools.pools import Pool
from rangepools.profiles import Position, Profile
from rangepools.ratios import Ratio

# Each is a value where a number may be asked, but none is one.
NO_NUMBERS = [True, False, None, "1", "1/2", "", [1], (1, 2), {1: 2}, [], {}]
NO_GOODS = [True, False, None, "", "A", "ab", "c", " a", 0, 1, Ratio(1), ["a"], ("b",), {"a": "b"}, [], {}]
BELOW_0 = [-1, Ratio(-1, 2)]

BIG = 10 ** 59 + 7          # an integer of 60 digits
BIGGER = 10 ** 60 - 1       # the greatest one


def fraction(number):
    """The standard library's quotient that is equal to a Ratio."""
    assert isinstance(number, Ratio), number
    assert isinstance(number.top, int) and isinstance(number.bottom, int)
    return Fraction(number.top, number.bottom)


def fractions(numbers):
    return [fraction(number) for number in numbers]


def ratio(number):
    return Ratio(number.numerator, number.denominator)


def texts(numbers):
    for number in numbers:
        assert isinstance(number, Ratio), number
    return [number.text() for number in numbers]


def rows(tuples):
    for row in tuples:
        assert isinstance(row, tuple), row
    return [texts(row) for row in tuples]


def profile(*texts_of_positions):
    """The profile of the positions with some texts."""
    return Profile([Position.read(text) for text in texts_of_positions])


def random_fraction(random, least=1):
    return Fraction(random.randint(least, 12), random.choice([1, 1, 1, 2, 3, 5]))


def random_triple(random):
    """The low, the high and the size of some position."""
    low = random_fraction(random)
    return low, low + random_fraction(random), random_fraction(random)


def position(triple):
    low, high, size = triple
    return Position(ratio(low), ratio(high), ratio(size))


def size_at(triples, root):
    return sum((size for low, high, size in triples if low <= root < high), Fraction(0))


def size_below(triples, root):
    """The size just below a root price."""
    return sum((size for low, high, size in triples if low < root <= high), Fraction(0))


def ends_of(triples):
    """The root prices at which the size changes, as [4] says."""
    cuts = sorted({low for low, _, _ in triples} | {high for _, high, _ in triples})
    return [cut for cut in cuts if size_at(triples, cut) != size_below(triples, cut)]


def random_triples(random):
    """Some positions, often with equal ends and sizes."""
    if random.random() < 0.5:
        return [random_triple(random) for _ in range(random.randint(0, 5))]
    lows = [random.randint(1, 6) for _ in range(random.randint(0, 7))]
    return [(Fraction(low), Fraction(low + random.randint(1, 3)), Fraction(random.randint(1, 2))) for low in lows]


class Walk:
    """A trade, reckoned with the standard library from end to end of the positions, word by word as [5] says."""

    def __init__(self, triples, root, fee, good, amount):
        ends, net = ends_of(triples), (1 - fee) * amount
        self.root, self.taken, self.parts = root, Fraction(0), []
        while net > 0:
            ahead = [end for end in ends if (end > self.root if good == "b" else end < self.root)]
            if not ahead:
                break
            start, goal = self.root, min(ahead) if good == "b" else max(ahead)
            size = size_at(triples, min(start, goal))
            if size > 0:
                goal = self.stop(start, goal, size, good, net)
                rising, falling = size * abs(goal - start), size * abs(1 / goal - 1 / start)
                used, taken = (rising, falling) if good == "b" else (falling, rising)
                net -= used
                self.taken += taken
                self.parts.append((start, goal, size, used / (1 - fee), taken))
            self.root = goal
        self.left = net / (1 - fee)

    def stop(self, start, goal, size, good, net):
        if good == "b":
            return min(goal, start + net / size)
        return max(goal, 1 / (1 / start + net / size))


MORE_THAN_ALL = Fraction(10) ** 300
FEES = [Fraction(0), Fraction(0), Fraction(1, 10), Fraction(1, 4), Fraction(8, 9), 1 - Fraction(1, BIGGER)]


def made_pool(given):
    """The pool with some (positions, root price, fee)."""
    triples, root, fee = given
    return Pool(Profile([position(triple) for triple in triples]), ratio(root), ratio(fee))


def pool(*texts_of_positions, root, fee="0"):
    """The pool of the positions with some texts, a root price and a fee."""
    return Pool(profile(*texts_of_positions), Ratio.read(str(root)), Ratio.read(str(fee)))


def given_by(made):
    """The positions, the root price and the fee of a pool, as made_pool takes them."""
    triples = [tuple(fractions((one.low, one.high, one.size))) for one in made.profile.positions()]
    return triples, fraction(made.root), fraction(made.fee)


def random_given(random):
    """The (positions, root price, fee) of some pool; the root price lies anywhere, and often at an end."""
    triples = random_triples(random)
    ends = [end for low, high, _ in triples for end in (low, high)]
    root = random.choice(ends + [random_fraction(random), Fraction(1, 7), Fraction(40)])
    return triples, root, random.choice(FEES)


def most_of(given, good):
    return MORE_THAN_ALL - Walk(*given, good, MORE_THAN_ALL).left


def joints_of(given, good):
    """The amounts at which the parts of a trade of more than everything begin and end."""
    joints = [Fraction(0)]
    for part in Walk(*given, good, MORE_THAN_ALL).parts:
        joints.append(joints[-1] + part[3])
    return joints


def amounts_for(random, given, good):
    """Nothing, very little, exactly to each end, between them, and more than everything."""
    joints = joints_of(given, good)
    between = [one + (other - one) * Fraction(random.randint(1, 9), 10) for one, other in zip(joints, joints[1:])]
    return joints + between + [Fraction(1, BIGGER), joints[-1] + Fraction(1, BIGGER), joints[-1] * 2 + 1]


def random_curve(random):
    """The curve of some pool that takes something, with the (positions, root price, fee) and the good."""
    while True:
        given, good = random_given(random), random.choice("ab")
        if most_of(given, good) > 0:
            return curve_of(made_pool(given), good), given, good


def chain_told(givens, goods, amount):
    """What a chain of pools, one behind the other, gives for an amount, or None if one of them gives something back."""
    for given, good in zip(givens, goods):
        walk = Walk(*given, good, amount)
        if walk.left > 0:
            return None
        amount = walk.taken
    return amount


class Raises:
    """To be inherited beside TestCase: asks for an error of exactly one class, and for its value."""

    def raised(self, error, run, /, *arguments, **named):
        """The error of exactly this class that a call raises."""
        with self.assertRaises(error) as caught:
            run(*arguments, **named)
        self.assertIs(type(caught.exception), error)
        return caught.exception

    def names(self, error, value, run, /, *arguments, **named):
        """A call raises an error of exactly this class, which names a value."""
        found = self.raised(error, run, *arguments, **named).given
        self.assertEqual(found, value)
        self.assertIs(isinstance(found, bool), isinstance(value, bool))
