"""Promises [43] to [47]: what positions are worth at all root prices, and what fees make up for."""

import random
import unittest
from fractions import Fraction

from kit import (BELOW_0, BIGGER, NO_NUMBERS, Raises, fraction, fractions, held, pair_sum, position, profile, random_fraction,
                 random_triples, ratio, texts)
from rangepools.errors import BadAmount, BadRange, BadRoot, BadShare
from rangepools.profiles import Profile
from rangepools.ratios import Ratio, greater
from rangepools.worths import (break_even, kept_worth, lag, lag_above_at, lag_at_most, loss_at, worth, worth_less_at,
                               worth_never_less, worth_pieces)

PLAIN = profile("1 4 4")
EMPTY = Profile([])
NO_ROOTS = NO_NUMBERS + BELOW_0 + [0, Ratio(0)]
NEAR = Ratio(1, BIGGER)


def worth_of(triples, root, end):
    """The worth at the root price end of what positions hold at a root price, as [3] and [43] say."""
    a, b = pair_sum([held(triple, root) for triple in triples])
    return end * end * a + b


def numbers_through(function, low, high):
    """The three numbers of the quadratic function that has the values of a function at three root prices."""
    x, y, z = low, (low + high) / 2, high
    slope, other = (function(y) - function(x)) / (y - x), (function(z) - function(y)) / (z - y)
    square = (other - slope) / (z - x)
    line = slope - square * (x + y)
    return square, line, function(x) - square * x * x - line * x


def is_below_0(function, low, high):
    """Whether a quadratic function is below 0 somewhere from low to high, told from its discriminant."""
    if function(low) < 0 or function(high) < 0:
        return True
    if low == high:
        return False
    square, line, rest = numbers_through(function, low, high)
    inside = square > 0 and 2 * square * low < -line < 2 * square * high
    return inside and line * line > 4 * square * rest


def is_below_0_somewhere(function, ends, low, high):
    """The same for a function that is quadratic between neighbouring ends."""
    cuts = [low] + sorted(end for end in set(ends) if low < end < high) + [high]
    return any(is_below_0(function, one, other) for one, other in zip(cuts, cuts[1:]))


def ends_in(triples):
    return [end for low, high, _ in triples for end in (low, high)]


def made(triples):
    return Profile([position(triple) for triple in triples])


class Worths(unittest.TestCase, Raises):
    def test_worths(self):
        for root, wanted in [("1/2", "3/4"), ("1", "3"), ("2", "8"), ("3", "11"), ("4", "12"), ("9", "12"), (f"1/{BIGGER}", None)]:
            if wanted is not None:
                self.assertEqual(worth(PLAIN, Ratio.read(root)).text(), wanted)
        self.assertTrue(worth(PLAIN, NEAR) == NEAR * NEAR * 3)
        self.assertEqual(texts([worth(root=2, profile=PLAIN), worth(EMPTY, 2), kept_worth(EMPTY, 2, 3), lag(EMPTY, 2, 3)]),
                         ["8", "0", "0", "0"])

    def test_what_is_kept_and_the_lag(self):
        for root, end, kept, less in [(2, 4, "20", "8"), (2, 1, "5", "2"), (2, 2, "8", "0"), (4, 1, "12", "9"), (1, 4, "48", "36"),
                                      (5, 9, "12", "0"), (Ratio(1, 2), Ratio(1, 3), "1/3", "0"), (4, 4, "12", "0")]:
            self.assertEqual(texts([kept_worth(PLAIN, root, end), lag(PLAIN, root, end)]), [kept, less])
        self.assertEqual(texts([kept_worth(end=4, root=2, profile=PLAIN), lag(end=4, root=2, profile=PLAIN)]), ["20", "8"])

    def test_no_lag_in_gaps(self):
        gapped = profile("1 2 3", "3 4 3")
        for root, end, equal in [(2, 3, True), (Ratio(5, 2), 3, True), (3, 2, True), (Ratio(1, 3), 1, True), (4, 9, True), (2, 4, False),
                                 (2, Ratio(3) + NEAR, False), (2, Ratio(2) - NEAR, False)]:
            self.assertIs(lag(gapped, root, end) == 0, equal)
            self.assertTrue(Ratio(0) <= lag(gapped, root, end))

    def test_wrong_root_prices(self):
        for value in NO_ROOTS:
            self.names(BadRoot, value, worth, PLAIN, value)
            for run in (kept_worth, lag):
                self.names(BadRoot, value, run, PLAIN, value, "x")
                self.names(BadRoot, value, run, PLAIN, 2, value)

    def test_pieces(self):
        pieces = worth_pieces(PLAIN)
        self.assertEqual([texts(piece[2:]) for piece in pieces], [["3", "0", "0"], ["-1", "8", "-4"], ["0", "0", "12"]])
        self.assertEqual(texts([piece[0] for piece in pieces] + [piece[1] for piece in pieces[:-1]]), ["0", "1", "4", "1", "4"])
        self.assertIsNone(pieces[-1][1])
        self.assertEqual({type(piece) for piece in pieces}, {tuple})
        pieces.clear()
        self.assertEqual(len(worth_pieces(profile=PLAIN)), 3)

    def test_pieces_of_a_profile_without_positions(self):
        (start, end, *numbers), = worth_pieces(EMPTY)
        self.assertEqual((texts([start, *numbers]), end), (["0", "0", "0", "0"], None))

    def test_pieces_with_gaps(self):
        pieces = worth_pieces(profile("1 2 6", "3 4 12"))
        self.assertEqual([texts(piece[2:]) for piece in pieces], [["4", "0", "0"], ["-2", "12", "-6"], ["1", "0", "6"],
                                                                  ["-3", "24", "-30"], ["0", "0", "18"]])

    def test_never_less(self):
        small = profile("1 2 4")
        self.assertTrue(worth_never_less(PLAIN, small) and not worth_never_less(small, PLAIN))
        for one, other in [(PLAIN, small), (PLAIN, PLAIN), (EMPTY, EMPTY), (PLAIN, EMPTY), (profile("1 4 4", "5 6 1"), PLAIN),
                           (profile("1 4 5"), PLAIN), (profile("1/2 4 4"), PLAIN), (profile("1 9 4"), PLAIN)]:
            self.assertIs(worth_never_less(other=other, one=one), True)
            self.assertIsNone(worth_less_at(other=other, one=one))
            if one is not other:
                at = worth_less_at(other, one)
                self.assertTrue(worth(other, at) < worth(one, at))

    def test_profiles_that_differ_below_their_last_ends_alone(self):
        low, high = profile("1 2 2"), profile("3 4 2")          # both are worth 2 from 4 on
        self.assertIsNone(worth_less_at(low, high))
        at = worth_less_at(high, low)
        self.assertTrue(Ratio(0) < at and at < 4 and worth(high, at) < worth(low, at))

    def test_profiles_that_touch_or_cross_between_ends(self):
        wide = [(Fraction(1), Fraction(4), Fraction(4))]
        both = [(Fraction(1, 2), Fraction(9), Fraction(3))]
        for root in (Fraction(2), Fraction(9, 4), Fraction(7, 4)):
            for extra, never in [(0, True), (1, True), (-1, False)]:
                narrow = self.touching(wide, root, 1 + Fraction(extra, 10 ** 30))
                for further in ([], both):
                    one, other = made(narrow + further), made(wide + further)
                    self.assertIs(worth_never_less(one, other), never)
                    at = worth_less_at(one, other)
                    if at is not None:
                        self.assertLess(abs(fraction(at) - root), Fraction(1, 10 ** 10))
                        self.assertTrue(worth(one, at) < worth(other, at))

    def touching(self, wide, root, factor):
        """Two short positions far from a root price, whose worth touches that of other positions there.

        From 3/2 to 5/2 they hold the same goods, which are those of the others at the root price, times a factor.
        """
        a, b = pair_sum([held(triple, root) for triple in wide])
        below, beyond = (Fraction(1), Fraction(3, 2)), (Fraction(5, 2), Fraction(4))
        sizes = factor * b / (below[1] - below[0]), factor * a / (1 / beyond[0] - 1 / beyond[1])
        return [below + (sizes[0],), beyond + (sizes[1],)]


class Lags(unittest.TestCase, Raises):
    def lags(self, *arguments):
        """The root price at which the lag is above the share, asked in all ways."""
        at = lag_above_at(*arguments)
        self.assertIs(lag_at_most(*arguments), at is None)
        if at is not None:
            made_of, root, share, low, high = arguments
            self.assertTrue(Ratio(1) * low <= at <= high)
            self.assertTrue(kept_worth(made_of, root, at) * share < lag(made_of, root, at))
        return at

    def test_just_the_share_that_lags_behind(self):
        for root, end in [(2, 4), (2, 1), (2, 3), (2, Ratio(1, 3)), (2, 9), (1, 3), (4, 2), (9, 3), (Ratio(1, 2), 5)]:
            share = lag(PLAIN, root, end).over(kept_worth(PLAIN, root, end))
            self.assertIsNone(self.lags(PLAIN, root, share, end, end))
            self.assertTrue(self.lags(PLAIN, root, share - NEAR, end, end) == end)
        self.assertIsNone(self.lags(PLAIN, 2, Ratio(2, 5), 1, 4))
        self.assertIsNone(self.lags(PLAIN, 2, Ratio(1, 5), 2, 3))
        self.assertIsNotNone(self.lags(PLAIN, 2, Ratio(1, 5), 1, 2))
        self.assertTrue(lag_at_most(high=4, low=1, share=Ratio(2, 5), root=2, profile=PLAIN))
        self.assertIsNone(lag_above_at(high=4, low=1, share=Ratio(2, 5), root=2, profile=PLAIN))

    def test_shares_of_0_and_1(self):
        self.assertIsNone(self.lags(PLAIN, 2, 1, Ratio(1, BIGGER), BIGGER))
        self.assertIsNone(self.lags(PLAIN, 2, 0, 2, 2))
        self.assertIsNone(self.lags(PLAIN, 4, 0, 4, 9))
        self.assertIsNone(self.lags(profile("1 2 3", "3 4 3"), 2, 0, 2, 3))
        self.assertIsNotNone(self.lags(profile("1 2 3", "3 4 3"), 2, 0, 2, Ratio(3) + NEAR))
        self.assertIsNotNone(self.lags(PLAIN, 2, 0, Ratio(2) - NEAR, 2))
        self.assertIsNone(self.lags(EMPTY, 2, 0, 1, 9))

    def test_errors_in_their_order(self):
        for run in (lag_at_most, lag_above_at):
            self.wrong_bounds(run, lambda root, low, high: (PLAIN, root, "x", low, high))
            for share in NO_NUMBERS + BELOW_0 + [2, Ratio(BIGGER + 1, BIGGER)]:
                self.names(BadShare, share, run, PLAIN, 2, share, 1, 4)

    def wrong_bounds(self, run, arguments):
        for value in NO_ROOTS:
            self.names(BadRoot, value, run, *arguments(value, "x", 0))
            self.names(BadRoot, value, run, *arguments(2, value, 0))
            self.names(BadRoot, value, run, *arguments(2, 3, value))
        self.raised(BadRange, run, *arguments(2, 3, 2))
        self.raised(BadRange, run, *arguments(2, Ratio(3) + NEAR, 3))

    def losses(self, *arguments):
        """The root price at which the fees are not enough, asked in all ways."""
        at = loss_at(*arguments)
        self.assertIs(break_even(*arguments), at is None)
        if at is not None:
            made_of, root, a, b, low, high = arguments
            self.assertTrue(Ratio(1) * low <= at <= high)
            self.assertTrue(at * at * a + b < lag(made_of, root, at))
        return at

    def test_fees_that_are_just_enough(self):
        for root, end in [(2, 4), (2, 1), (2, 3), (2, Ratio(1, 3)), (2, 9), (1, 3), (4, 2), (9, 3)]:
            missing = lag(PLAIN, root, end)
            self.assertIsNone(self.losses(PLAIN, root, 0, missing, end, end))
            self.assertTrue(self.losses(PLAIN, root, 0, missing - NEAR, end, end) == end)
            self.assertIsNone(self.losses(PLAIN, root, missing.over(Ratio(1) * end * end), 0, end, end))
            self.assertIsNotNone(self.losses(PLAIN, root, missing.over(Ratio(1) * end * end) - NEAR, 0, end, end))
        self.assertIsNone(self.losses(PLAIN, 2, 0, 2, 1, 3))
        self.assertIsNotNone(self.losses(PLAIN, 2, 0, 2, 1, 4))
        self.assertTrue(break_even(high=3, low=1, b=2, a=0, root=2, profile=PLAIN))
        self.assertIsNone(loss_at(high=3, low=1, b=2, a=0, root=2, profile=PLAIN))

    def test_bounds(self):
        self.assertIsNone(self.losses(PLAIN, 2, 0, 0, 2, 2))
        self.assertIsNone(self.losses(PLAIN, 9, 0, 0, 4, BIGGER))            # from below and beyond the bounds
        self.assertIsNone(self.losses(PLAIN, Ratio(1, 2), 0, 0, NEAR, 1))
        self.assertIsNotNone(self.losses(PLAIN, 9, 0, 0, Ratio(4) - NEAR, BIGGER))
        self.assertIsNotNone(self.losses(PLAIN, Ratio(1, 2), 0, 0, NEAR, Ratio(1) + NEAR))

    def test_fees_of_both_goods(self):
        # Fees that are just enough at both bounds are enough between them, too.
        small, root = profile("1 2 4"), Ratio(7, 5)
        below, beyond = lag(small, root, 1), lag(small, root, 2)
        for a, b in [(0, greater(below, beyond)), ((beyond - below).over(3), below - (beyond - below).over(3))]:
            self.assertIsNone(self.losses(small, root, a, b, 1, 2))
            self.assertIsNotNone(self.losses(small, root, a, Ratio(1) * b - NEAR, 1, 2))

    def test_errors_of_break_even_in_their_order(self):
        for run in (break_even, loss_at):
            self.wrong_bounds(run, lambda root, low, high: (PLAIN, root, "x", "y", low, high))
            for amount in NO_NUMBERS + BELOW_0:
                self.names(BadAmount, amount, run, PLAIN, 2, amount, "y", 1, 4)
                self.names(BadAmount, amount, run, PLAIN, 2, 0, amount, 1, 4)


class Reckoned(unittest.TestCase):
    """Many profiles, once more with the standard library, from [3] alone."""

    def test_worths_and_pieces(self):
        chance = random.Random(43)
        for _ in range(80):
            triples = random_triples(chance)
            one, pieces = made(triples), worth_pieces(made(triples))
            self.assertTrue(pieces[0][0] == 0 and pieces[-1][1] is None)
            for piece, further in zip(pieces, pieces[1:]):
                self.assertTrue(piece[1] == further[0] and piece[2:] != further[2:])
            for start, end, p, q, r in pieces:
                low, high = fraction(start), fraction(end) if end is not None else fraction(start) + 5
                for root in {low, high, (low + high) / 2, (low + high * 8) / 9} - {0}:
                    value = worth_of(triples, root, root)
                    self.assertEqual(fraction(p) * root * root + fraction(q) * root + fraction(r), value)
                    self.assertEqual(fraction(worth(one, ratio(root))), value)
                    other = random_fraction(chance)
                    self.assertEqual(fraction(kept_worth(one, ratio(root), ratio(other))), worth_of(triples, root, other))
                    self.assertEqual(fraction(lag(one, ratio(other), ratio(root))), worth_of(triples, other, root) - value)
                    self.assertLessEqual(value, worth_of(triples, other, root))

    def test_never_less(self):
        chance = random.Random(45)
        seen = {True: 0, False: 0}
        for _ in range(300):
            triples = random_triples(chance)
            others = chance.choice([random_triples(chance), triples[1:], triples[:1], [(low, high, size / 2) for low, high, size in triples],
                                    [(low, (low + high) / 2, size * 2) for low, high, size in triples]])
            if chance.random() < 0.5:
                triples, others = others, triples
            ends = ends_in(triples) + ends_in(others) + [Fraction(1)]
            less = is_below_0_somewhere(lambda root: worth_of(triples, root, root) - worth_of(others, root, root), ends,
                                        min(ends) / 2, max(ends) + 1)
            self.assertIs(worth_never_less(made(triples), made(others)), not less)
            at = worth_less_at(made(triples), made(others))
            if at is not None:
                self.assertLess(worth_of(triples, fraction(at), fraction(at)), worth_of(others, fraction(at), fraction(at)))
                self.assertGreater(fraction(at), 0)
            seen[less] += 1
        self.assertTrue(min(seen.values()) > 50, seen)

    def test_lags_and_losses(self):
        chance = random.Random(46)
        seen = {(run, less): 0 for run in ("share", "loss") for less in (True, False)}
        for _ in range(300):
            triples = random_triples(chance)
            root, low = chance.choice(ends_in(triples) + [random_fraction(chance)]), random_fraction(chance) / 2
            high = low + chance.choice([0, 1, 3, random_fraction(chance)])
            share = chance.choice([Fraction(0), Fraction(1, 50), Fraction(1, 5), Fraction(1, 2), Fraction(1)])
            a, b = [chance.choice([Fraction(0), random_fraction(chance) / 9]) for _ in "ab"]
            gap = lambda end: worth_of(triples, root, end) - worth_of(triples, end, end)
            rest = {"share": lambda end: share * worth_of(triples, root, end) - gap(end), "loss": lambda end: end * end * a + b - gap(end)}
            ends = list(map(ratio, (low, high)))
            found = {"share": lag_above_at(made(triples), ratio(root), ratio(share), *ends),
                     "loss": loss_at(made(triples), ratio(root), ratio(a), ratio(b), *ends)}
            for run in ("share", "loss"):
                less = is_below_0_somewhere(rest[run], ends_in(triples), low, high)
                self.assertIs(found[run] is not None, less)
                seen[run, less] += 1
                if less:
                    at = fraction(found[run])
                    self.assertTrue(low <= at <= high and rest[run](at) < 0)
        self.assertTrue(min(seen.values()) > 40, seen)


if __name__ == "__main__":
    unittest.main()
