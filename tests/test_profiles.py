"""Promises [4] and [14]: profiles, their ends and stretches, and what they hold."""

import random
import unittest
from fractions import Fraction

from kit import (BIG, BIGGER, NO_NUMBERS, Raises, ends_of, fraction, fractions, position, profile, random_fraction,
                 random_triple, random_triples, ratio, rows, size_at, texts)
from rangepools.errors import BadRoot, Lacking
from rangepools.profiles import Position, Profile
from rangepools.ratios import Ratio

# Texts of positions, and the stretches of their profile as [4] says.
CASES = [
    ([], []),
    (["1 3 6"], ["1 3 6"]),
    (["1 3 6", "2 4 1/2"], ["1 2 6", "2 3 13/2", "3 4 1/2"]),                    # overlapping
    (["1 2 6", "2 3 1"], ["1 2 6", "2 3 1"]),                                    # touching
    (["1 2 6", "2 3 6"], ["1 3 6"]),                                             # touching, of equal sizes
    (["1 2 6", "3 4 6"], ["1 2 6", "2 3 0", "3 4 6"]),                           # a gap
    (["1 2 1", "4 5 2", "7 8 3"], ["1 2 1", "2 4 0", "4 5 2", "5 7 0", "7 8 3"]),
    (["1 4 6", "2 3 1"], ["1 2 6", "2 3 7", "3 4 6"]),                           # one within another
    (["1 3 6", "1 3 1/2"], ["1 3 13/2"]),                                        # the same range
    (["1 3 6", "1 3 6"], ["1 3 12"]),                                            # the same position twice
    (["1 3 6", "1 2 1"], ["1 2 7", "2 3 6"]),                                    # the same low
    (["1 3 6", "2 3 1"], ["1 2 6", "2 3 7"]),                                    # the same high
    (["1 2 5", "2 3 2", "1 2 1", "2 3 4"], ["1 3 6"]),                           # equal sums side by side
    (["1 3 2", "2 4 2", "3 5 2"], ["1 2 2", "2 4 4", "4 5 2"]),                  # one ends where one begins
    (["1 2 6", "2 3 6", "3 4 6", "5 6 6", "6 7 6"], ["1 4 6", "4 5 0", "5 7 6"]),
    (["1/3 1/2 1/5", "1/2 2/3 1/5", "2/3 1 1/7"], ["1/3 2/3 1/5", "2/3 1 1/7"]),
    ([f"1 {BIG} 1", f"{BIG} {BIGGER} 1", f"1/{BIGGER} 1/{BIG} 2"],
     [f"1/{BIGGER} 1/{BIG} 2", f"1/{BIG} 1 0", f"1 {BIGGER} 1"]),
]


def words(stretches):
    return [text.split(" ") for text in stretches]


def stretches_of(triples):
    """The stretches, reckoned with the standard library: the ends are where the size changes."""
    ends = ends_of(triples)
    return [(low, high, size_at(triples, low)) for low, high in zip(ends, ends[1:])]


def held(triples, root):
    a = b = Fraction(0)
    for low, high, size in triples:
        at = min(max(root, low), high)
        a, b = a + size * (1 / at - 1 / high), b + size * (at - low)
    return [a, b]


class Stretches(unittest.TestCase):
    def test_cases(self):
        for given, wanted in CASES:
            with self.subTest(given):
                made = profile(*given)
                self.assertEqual(rows(made.stretches()), words(wanted))
                self.assertEqual([one.text() for one in made.positions()],
                                 [text for text in wanted if not text.endswith(" 0")])
                ends = [text.split(" ")[0] for text in wanted] + [text.split(" ")[1] for text in wanted[-1:]]
                self.assertEqual(texts(made.ends()), ends)

    def test_the_kinds_of_values(self):
        made = profile("1 2 6", "3 4 1")
        self.assertIs(type(made.ends()), list)
        self.assertIs(type(made.stretches()), list)
        self.assertEqual([type(one) for one in made.stretches()], [tuple] * 3)
        self.assertIs(type(made.positions()), list)
        self.assertEqual([type(one) for one in made.positions()], [Position] * 2)

    def test_the_order_of_the_positions_plays_no_role(self):
        chance = random.Random(41)
        for given, wanted in CASES:
            for _ in range(4):
                mixed = chance.sample(given, len(given))
                self.assertEqual(rows(profile(*mixed).stretches()), words(wanted))

    def test_as_the_standard_library_reckons(self):
        chance = random.Random(42)
        for _ in range(300):
            triples = random_triples(chance)
            made = Profile([position(triple) for triple in triples])
            wanted = stretches_of(triples)
            self.assertEqual([tuple(fractions(one)) for one in made.stretches()], wanted)
            self.assertEqual(fractions(made.ends()), [one[0] for one in wanted] + [one[1] for one in wanted[-1:]])
            found = [(fraction(one.low), fraction(one.high), fraction(one.size)) for one in made.positions()]
            self.assertEqual(found, [one for one in wanted if one[2] > 0])

    def test_16_positions(self):
        made = Profile([Position(at, at + 16, 1) for at in range(1, 17)])
        self.assertEqual(texts(made.ends()), [str(at) for at in range(1, 33)])
        self.assertEqual(texts([made.size_at(at) for at in (1, 15, 16, 17, 31, 32)]), ["1", "15", "16", "15", "1", "0"])


class Sizes(unittest.TestCase, Raises):
    def test_each_range_contains_its_low_but_not_its_high(self):
        made = profile("1 3 6", "2 4 1/2", "5 6 1")
        for root, size in [(Ratio(1, 2), "0"), (Ratio(99, 100), "0"), (1, "6"), (Ratio(3, 2), "6"), (2, "13/2"),
                           (Ratio(5, 2), "13/2"), (3, "1/2"), (Ratio(399, 100), "1/2"), (4, "0"), (Ratio(9, 2), "0"),
                           (5, "1"), (Ratio(599, 100), "1"), (6, "0"), (7, "0"), (BIG, "0"), (Ratio(1, BIG), "0")]:
            with self.subTest(size=size):
                self.assertEqual(texts([made.size_at(root), made.size_at(root=root)]), [size, size])

    def test_as_the_standard_library_reckons(self):
        chance = random.Random(43)
        for _ in range(200):
            triples = random_triples(chance)
            made = Profile([position(triple) for triple in triples])
            for root in [random_fraction(chance)] + [one[0] for one in triples] + [one[1] for one in triples]:
                self.assertEqual(fraction(made.size_at(ratio(root))), size_at(triples, root))
                self.assertEqual(fractions(made.holds(ratio(root))), held(triples, root))

    def test_without_positions(self):
        made = Profile([])
        self.assertEqual((made.ends(), made.stretches(), made.positions()), ([], [], []))
        self.assertEqual(texts([made.size_at(1), *made.holds(Ratio(1, 2))]), ["0", "0", "0"])

    def test_bad_root(self):
        for made in (Profile([]), profile("1 3 6"), profile("1 2 6", "3 4 1")):
            for root in NO_NUMBERS + [0, -1, Ratio(0, 3), Ratio(-1, 2), -BIG, Ratio(-1, BIGGER)]:
                with self.subTest(root=root):
                    self.names(BadRoot, root, made.size_at, root)
                    self.names(BadRoot, root, made.size_at, root=root)
                    self.names(BadRoot, root, made.holds, root)
                    self.names(BadRoot, root, made.holds, root=root)


class Holding(unittest.TestCase):
    def test_the_sum_of_what_the_positions_hold(self):
        made = profile("1 3 6", "2 4 1/2")
        for root, a, b in [(Ratio(1, 2), "33/8", "0"), (1, "33/8", "0"), (2, "9/8", "6"), (3, "1/24", "25/2"),
                           (Ratio(7, 2), "1/56", "51/4"), (4, "0", "13"), (9, "0", "13")]:
            with self.subTest(a=a, b=b):
                found = made.holds(root)
                self.assertIs(type(found), tuple)
                self.assertEqual(texts(found), [a, b])
                self.assertEqual(texts(made.holds(root=root)), [a, b])

    def test_in_a_gap(self):
        made = profile("1 2 2", "4 5 20")
        for root in (2, 3, 4):
            self.assertEqual(texts(made.holds(root)), ["1", "2"])


class Equality(unittest.TestCase):
    def equal(self, one, other):
        self.assertIs(one == other, True)
        self.assertIs(other == one, True)
        self.assertIs(one != other, False)

    def unequal(self, one, other):
        self.assertIs(one == other, False)
        self.assertIs(other == one, False)
        self.assertIs(one != other, True)

    def test_positions_in_another_order(self):
        self.equal(profile("1 3 6", "2 4 1/2", "5 6 1"), profile("5 6 1", "1 3 6", "2 4 1/2"))

    def test_positions_cut_and_joined(self):
        self.equal(profile("1 4 6"), profile("1 2 6", "2 4 6"))
        self.equal(profile("1 4 6"), profile("1 4 2", "1 4 4"))
        self.equal(profile("1 4 6"), profile("2 3 1", "1 2 6", "3 4 6", "2 3 5"))
        self.equal(profile("1 3 6", "2 4 6"), profile("1 4 6", "2 3 6"))
        self.equal(profile("1 2 6", "2 3 1"), profile("1 3 1", "1 2 5"))
        self.equal(Profile([]), Profile(()))

    def test_different_profiles(self):
        base = profile("1 3 6")
        for other in ([], ["1 3 5"], ["1 2 6"], ["1 4 6"], ["2 3 6"], ["1/2 3 6"], ["1 3 6", "3 4 1/9"], ["1 2 6", "5/2 3 6"],
                      ["1 3 6", "2 3 1/1000"], ["3 6 1"], ["1 3 6", "1 3 6"], ["1 3 6", "7 8 1"]):
            with self.subTest(other):
                self.unequal(base, profile(*other))
        self.unequal(profile("1 2 6", "3 4 6"), profile("1 4 6"))
        self.unequal(profile("1 2 6", "3 4 6"), profile("1 2 6", "5 6 6"))

    def test_not_equal_to_values_of_other_classes(self):
        made = profile("1 3 6")
        for other in NO_NUMBERS + [1, Ratio(1), Position(1, 3, 6), [Position(1, 3, 6)], made.stretches(), "1 3 6"]:
            with self.subTest(other=other):
                self.unequal(made, other)
        self.unequal(Profile([]), [])

    def test_the_profile_of_its_own_positions(self):
        chance = random.Random(44)
        for _ in range(200):
            made = Profile([position(triple) for triple in random_triples(chance)])
            self.equal(made, Profile(made.positions()))

    def test_as_the_standard_library_reckons(self):
        chance = random.Random(45)
        seen = []
        for _ in range(300):
            triples = [(Fraction(low), Fraction(low + chance.randint(1, 2)), Fraction(1))
                       for low in (chance.randint(1, 2) for _ in range(chance.randint(0, 2)))]
            made = Profile([position(triple) for triple in triples])
            for other, made_other in seen[-20:]:
                self.assertIs(made == made_other, stretches_of(triples) == stretches_of(other))
            seen.append((triples, made))


class Sums(unittest.TestCase, Raises):
    def test_the_positions_of_both(self):
        self.assertEqual(rows((profile("1 3 6") + profile("2 4 1/2")).stretches()),
                         words(["1 2 6", "2 3 13/2", "3 4 1/2"]))
        self.assertEqual(rows((profile("1 2 6") + profile("2 3 6")).stretches()), words(["1 3 6"]))
        self.assertEqual(rows((profile("1 2 6") + profile("3 4 6")).stretches()), words(["1 2 6", "2 3 0", "3 4 6"]))
        self.assertEqual(rows((profile("1 3 6") + profile("1 3 6")).stretches()), words(["1 3 12"]))

    def test_with_no_positions(self):
        made = profile("1 3 6")
        self.assertTrue(made + Profile([]) == made and Profile([]) + made == made)
        self.assertTrue(Profile([]) + Profile([]) == Profile([]))

    def test_as_one_profile_of_all(self):
        chance = random.Random(46)
        for _ in range(200):
            one, other = random_triples(chance), random_triples(chance)
            added = Profile([position(triple) for triple in one]) + Profile([position(triple) for triple in other])
            self.assertIs(type(added), Profile)
            self.assertEqual([tuple(fractions(part)) for part in added.stretches()], stretches_of(one + other))

    def test_only_profiles_are_added(self):
        for value in NO_NUMBERS + [0, Ratio(1), Position(1, 3, 6)]:
            self.assertRaises(TypeError, lambda: Profile([]) + value)

    def test_both_stay_as_they_are(self):
        one, other = profile("1 3 6"), profile("2 4 1/2")
        one + other
        one.without(Position(1, 2, 1))
        self.raised(Lacking, one.without, Position(1, 9, 1))
        self.assertEqual((rows(one.stretches()), rows(other.stretches())), (words(["1 3 6"]), words(["2 4 1/2"])))


class Without(unittest.TestCase, Raises):
    def test_less_in_the_range_of_the_position(self):
        for given, text, wanted in [
                (["1 3 6"], "1 3 6", []),
                (["1 3 6"], "1 3 2", ["1 3 4"]),
                (["1 3 6"], "1 2 2", ["1 2 4", "2 3 6"]),
                (["1 3 6"], "2 3 2", ["1 2 6", "2 3 4"]),
                (["1 4 6"], "2 3 6", ["1 2 6", "2 3 0", "3 4 6"]),
                (["1 4 6"], "1 3 6", ["3 4 6"]),
                (["1 4 6"], "2 4 6", ["1 2 6"]),
                (["1 3 6", "2 4 1/2"], "2 4 1/2", ["1 3 6"]),
                (["1 3 6", "2 4 1/2"], "1 3 6", ["2 4 1/2"]),
                (["1 3 6", "2 4 1/2"], "1 4 1/2", ["1 2 11/2", "2 3 6"]),
                (["1 2 6", "2 3 7", "3 4 6"], "2 3 1", ["1 4 6"]),
                (["1 2 6", "2 3 6"], "1 3 6", []),
                (["1 2 6", "3 4 6"], "3 4 6", ["1 2 6"]),
                (["1 2 6", "3 4 6"], "1 2 6", ["3 4 6"]),
                (["1 2 6", "3 4 6", "5 6 1"], "3 4 6", ["1 2 6", "2 5 0", "5 6 1"]),
                ([f"1 {BIG} {BIGGER}"], f"2 {BIG - 1} {BIG}",
                 [f"1 2 {BIGGER}", f"2 {BIG - 1} {BIGGER - BIG}", f"{BIG - 1} {BIG} {BIGGER}"])]:
            with self.subTest(given, without=text):
                found = profile(*given).without(Position.read(text))
                self.assertIs(type(found), Profile)
                self.assertEqual(rows(found.stretches()), words(wanted))
                self.assertTrue(found == profile(*given).without(position=Position.read(text)))
                self.assertTrue(found + Profile([Position.read(text)]) == profile(*given))

    def test_lacking(self):
        for given, text in [
                ([], "1 3 1"),
                (["1 3 6"], "1 3 7"),
                (["1 3 6"], "1 3 601/100"),
                (["1 3 6"], "1 4 1"),                  # none in the last part
                (["1 3 6"], "1/2 3 1"),                # none in the first part
                (["1 3 6"], "1/2 4 6"),
                (["1 3 6"], "3 4 1"),                  # the range ends where the other one begins
                (["1 3 6"], "1/2 1 1"),
                (["1 3 6"], "5 6 1"),                  # apart from all ranges
                (["1 3 6"], "1/9 1/8 1"),
                (["1 2 6", "3 4 6"], "1 4 6"),         # across a gap
                (["1 2 6", "3 4 6"], "2 3 1"),         # in a gap
                (["1 2 6", "3 4 6"], "1 5/2 1"),
                (["1 2 6", "2 3 1", "3 4 6"], "1 4 2"),
                (["1 3 6", "2 4 1/2"], "1 4 1"),
                (["1 2 6", "2 3 5"], "1 3 6"),
                ([f"1 3 {BIG}"], f"1 3 {BIG + 1}")]:
            with self.subTest(given, without=text):
                made = profile(*given)
                self.raised(Lacking, made.without, Position.read(text))
                self.raised(Lacking, made.without, position=Position.read(text))
                self.assertTrue(made == profile(*given))

    def test_as_the_standard_library_reckons(self):
        chance = random.Random(47)
        lacking = 0
        for _ in range(400):
            triples = random_triples(chance)
            low, high, size = chance.choice(triples + [random_triple(chance)])
            size = chance.choice([size, size / 2, size * 2])
            made = Profile([position(triple) for triple in triples])
            cuts = [low] + [end for one in triples for end in one[:2] if low <= end < high]
            if any(size_at(triples, cut) < size for cut in cuts):
                lacking += 1
                self.raised(Lacking, made.without, position((low, high, size)))
            else:
                found = made.without(position((low, high, size)))
                self.assertEqual([tuple(fractions(part)) for part in found.stretches()],
                                 stretches_of(triples + [(low, high, -size)]))
        self.assertTrue(50 < lacking < 350)


if __name__ == "__main__":
    unittest.main()
