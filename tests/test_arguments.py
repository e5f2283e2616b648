"""Promises [7], [8] and [9]: what holds for all arguments, values and errors."""

import unittest

from kit import BIGGER, Raises, pool, profile, rows, texts
from rangepools.compare import above, ahead, best_for, gains, less_at, never_less, same_until
from rangepools.curves import chain_of, chained, curve_of, joined
from rangepools.deeds import do_deed
from rangepools.errors import (BadAmount, BadDeed, BadFee, BadGood, BadLine, BadName, BadNumber, BadPrices, BadRange, BadRing,
                               BadRoot, BadRoute, BadShare, BadSize, BadSplit, BadWeb, InUse, Lacking, NoGood, NoPool,
                               NoPosition, NothingToRedo, NothingToUndo, NoWay, PoolError, Short, TooMuch, UnlikeFees)
from rangepools.house import House, read_house
from rangepools.keepers import Keeper
from rangepools.pools import Pool, alike, most, needed, parting, rate, steps, to_root, trade
from rangepools.prices import (are_fair, has_gained, is_ring, ring_above, ring_amount, ring_curve, ring_gains, traded,
                               value_of)
from rangepools.profiles import Position, Profile
from rangepools.ratios import Ratio, as_ratio, greater, is_positive, lesser, total
from rangepools.splits import best_split, yield_of
from rangepools.webs import Web, best_route, better_route, is_best_route, leads_to, route_curve, routes, send
from rangepools.worths import lag_at_most


class Lists(unittest.TestCase):
    def test_tuples_instead_of_lists(self):
        one, other = Position(1, 3, 6), Position(2, 4, Ratio(1, 2))
        self.assertTrue(Profile((one, other)) == Profile([one, other]))
        self.assertTrue(Profile(positions=(one,)) == Profile(positions=[one]))
        self.assertTrue(Profile(()) == Profile([]))
        self.assertEqual(texts([total((1, Ratio(1, 2))), total(())]), ["3/2", "0"])

    def test_lists_changed_after_they_were_passed_in(self):
        given = [Position(1, 3, 6), Position(2, 4, Ratio(1, 2))]
        made = Profile(given)
        for change in (given.pop, lambda: given.append(Position(5, 6, 1)), given.reverse, given.clear):
            change()
            self.assertTrue(made == profile("1 3 6", "2 4 1/2"))
            self.assertEqual(texts(made.ends()), ["1", "2", "3", "4"])
            self.assertEqual(texts([made.size_at(2), *made.holds(2)]), ["13/2", "9/8", "6"])

    def test_lists_are_not_changed_by_functions(self):
        one, other = Position(2, 4, Ratio(1, 2)), Position(1, 3, 6)
        given = [one, other, one]
        Profile(given)
        self.assertEqual(len(given), 3)
        self.assertTrue(given[0] is one and given[1] is other and given[2] is one)
        numbers = [3, Ratio(1, 2), -1]
        total(numbers)
        self.assertEqual([numbers[0], numbers[1].text(), numbers[2], len(numbers)], [3, "1/2", -1, 3])

    def test_lists_changed_after_they_were_returned(self):
        made = profile("1 2 6", "3 4 1")
        for ask in (made.ends, made.stretches, made.positions):
            whole = ask()
            for change in (list.clear, list.reverse, list.pop):
                found = ask()
                change(found)
                self.assertTrue(ask() == whole)
                self.assertIsNot(ask(), found)
            found = ask()
            found[0] = None
            self.assertTrue(ask() == whole)
        self.assertEqual(rows(made.stretches()), [["1", "2", "6"], ["2", "3", "0"], ["3", "4", "1"]])
        self.assertTrue(made == profile("1 2 6", "3 4 1"))

    def test_empty_lists_are_new_on_each_call_too(self):
        made = Profile([])
        for ask in (made.ends, made.stretches, made.positions):
            ask().append(1)
            self.assertEqual(ask(), [])

    def test_tuples_instead_of_lists_of_pools_and_curves(self):
        made = pool("1 3 6", root=2)
        curve = curve_of(made, "b")
        self.assertTrue(chained((curve, curve)) == chained([curve, curve]) == chain_of((made, made), "bb"))
        self.assertTrue(best_for((curve, curve), 1) == best_for([curve, curve], 1))
        self.assertIsNone(best_for((), 1))

    def test_lists_of_pools_and_curves_changed_after_they_were_passed_in(self):
        positions = [Position(1, 3, 6)]
        made = Pool(Profile(positions), 2, 0)
        positions.append(Position(3, 4, 1))
        self.assertTrue(made == pool("1 3 6", root=2) and most(made, "b") == 6)
        pools, curves = [made, made], [curve_of(made, "b"), curve_of(made, "a")]
        chain, other = chain_of(pools, "ba"), chained(curves)
        told = best_for(curves, 1)
        self.assertEqual((len(pools), len(curves)), (2, 2))
        pools.pop()
        curves.reverse()
        self.assertTrue(chain == other and chain == chain_of([made, made], "ba"))
        self.assertTrue(told == (1, Ratio(12, 4)))

    def test_lists_of_steps_pieces_and_trades_changed_after_they_were_returned(self):
        made, after = pool("1 3 6", "4 5 2", root=2), pool("1 3 6", "4 5 2", root=3)
        curve = curve_of(made, "b")
        for ask in (lambda: steps(made, "b", 7), curve.pieces, lambda: parting(made, after),
                    joined(curve, curve_of(made, "a")).pieces, curve_of(after, "b").pieces):
            whole = ask()
            for change in (list.clear, list.reverse, list.pop, lambda found: found.append(0)):
                found = ask()
                change(found)
                self.assertTrue(ask() == whole)
                self.assertIsNot(ask(), found)
        self.assertTrue(curve == curve_of(made, "b"))
        self.assertEqual(texts([curve.end(), curve.told(7)]), ["8", "19/18"])
        empty = curve_of(pool("1 3 6", root=3), "b")
        empty.pieces().append(0)
        self.assertEqual((empty.pieces(), steps(made, "b", 0)), ([], []))


    def test_tuples_instead_of_lists_of_webs_and_prices(self):
        web = Web({"one": ("x", "y", pool("1 3 6", root=2)), "two": ("y", "x", pool("1 3 6", root=2))})
        for kind in (list, tuple):
            route, ring = kind(["one"]), kind([("one", "x"), ("two", "y")])
            self.assertEqual((leads_to(web, "x", route), is_best_route(web, "x", "y", route)), ("y", False))
            self.assertEqual(better_route(web, "x", "y", route)[0], ["two"])      # it takes more of x
            self.assertTrue(route_curve(web, "x", route).told(3) == send(web, "x", route, 3)[1] == 6)
            self.assertTrue(is_ring(web, ring) and ring_gains(web, ring) and ring_curve(web, ring).end() == 1)
            self.assertTrue(is_positive(ring_amount(web, ring)))
            self.assertEqual(texts(traded(web, kind([("one", "x", 3)]))[1].values()), ["-3", "6"])
            self.assertEqual((list(route), list(ring)), (["one"], [("one", "x"), ("two", "y")]))


class Names(unittest.TestCase):
    def test_all_arguments_by_name(self):
        made = Profile(positions=[Position(size=6, high=3, low=1)])
        self.assertEqual(texts([
            Ratio(bottom=4, top=2), Ratio.read(text="1/3"), Ratio(1).over(number=2), as_ratio(given=3),
            lesser(other=1, one=2), greater(other=1, one=2), total(numbers=[1, 2]),
            made.size_at(root=1), *made.holds(root=2), *Position.read(text="1 3 6").holds(root=2),
            *made.without(position=Position.read(text="1 3 5")).holds(root=3)]),
            ["1/2", "1/3", "1/2", "3", "1", "2", "3", "6", "1", "6", "1", "6", "0", "2"])

    def test_all_arguments_of_pools_curves_and_comparisons_by_name(self):
        made = Pool(fee=0, root=2, profile=profile("1 3 6"))
        curve = curve_of(good="b", pool=made)
        ring = chain_of(goods="ba", pools=[made, made])
        self.assertEqual(texts([
            trade(amount=6, good="b", pool=made)[1], steps(amount=6, good="b", pool=made)[0][3],
            most(good="a", pool=made), needed(wished=1, good="b", pool=made), rate(good="a", pool=made),
            to_root(root=1, pool=made)[1], curve.told(amount=6), curve.needed(wished=1), curve.rate(amount=0),
            joined(other=curve, one=curve).told(amount=0), chained(curves=[curve]).end(), same_until(other=curve, one=ring),
            less_at(other=curve, one=curve) or Ratio(0), best_for(amount=6, curves=[curve])[1],
            above(number=0, curve=curve) or Ratio(0)]),
            ["1", "6", "3", "6", "4", "3", "1", "6", "1/4", "0", "6", "0", "0", "1", "0"])
        self.assertEqual([alike(other=made, one=made), parting(other=made, one=made), never_less(other=curve, one=curve),
                          ahead(other=curve, one=curve), gains(curve=ring)], [True, None, True, "same", False])


class Values(unittest.TestCase, Raises):
    def test_objects_of_different_classes_are_not_equal(self):
        values = [Ratio(1), Position(1, 3, 6), Profile([Position(1, 3, 6)]), Profile([]), [Ratio(1)], (Ratio(1),), "1",
                  None, BadNumber(1), pool("1 3 6", root=2), pool(root=2), curve_of(pool("1 3 6", root=2), "b"),
                  curve_of(pool(root=2), "b"), [], (), Web({}), Web({"a": ("x", "y", pool(root=2))}), {},
                  {"a": ("x", "y", pool(root=2))}, Keeper(2, 0), House()]
        for at, one in enumerate(values):
            for other in values[:at] + values[at + 1:]:
                self.assertIs(one == other, False)
                self.assertIs(one != other, True)

    def test_a_ratio_is_equal_to_an_integer_with_the_same_value(self):
        self.assertTrue(Ratio(6, 3) == 2 and 2 == Ratio(6, 3) and [Ratio(2), 3] == [2, Ratio(3)])
        self.assertFalse(Ratio(6, 3) == 3 or 3 == Ratio(6, 3) or Ratio(5, 2) == 2)

    def test_numbers_may_be_integers_or_ratios_everywhere(self):
        for number in (lambda top: top, Ratio, lambda top: Ratio(top * 7, 7)):
            one = Position(number(1), number(3), number(6))
            self.assertEqual(one.text(), "1 3 6")
            self.assertEqual(texts(one.holds(number(2))), ["1", "6"])
            made = Profile([one])
            self.assertEqual(texts([made.size_at(number(1)), made.size_at(number(3))]), ["6", "0"])
            self.assertEqual(texts(made.holds(number(2))), ["1", "6"])
            self.assertEqual(texts([total([number(1), number(2)]), lesser(number(1), number(2))]), ["3", "1"])
            self.assertEqual(texts([greater(number(1), number(2)), Ratio(1).over(number(4))]), ["2", "1/4"])

    def test_numbers_of_webs_and_keepers_may_be_integers_or_ratios(self):
        for number in (lambda top: top, Ratio, lambda top: Ratio(top * 7, 7)):
            web = Web({"one": ("x", "y", pool("1 3 6", root=2)), "two": ("y", "x", pool("1 3 6", root=2))})
            self.assertEqual(texts([*web.trade("one", "x", number(4))[2:], send(web, "x", ["one"], number(3))[1],
                                    best_route(web, "x", "y", number(3))[1], value_of({"x": number(2)}, {"x": number(3)})]),
                             ["6", "1", "6", "6", "6"])
            self.assertEqual(texts(traded(web, [("one", "x", number(4))])[1].values()), ["-3", "6"])
            self.assertFalse(are_fair(web, {"x": number(1), "y": number(1)}))
            self.assertTrue(has_gained({"x": number(1)}) and ring_above(web, number(0)) is not None)
            keeper = Keeper(number(2), number(0))
            self.assertEqual(texts(keeper.lend("ann", number(1), number(3), number(6))), ["1", "6"])
            self.assertEqual(texts([*keeper.grow("ann", number(6)), *keeper.lessen("ann", number(6)), *keeper.trade("b", number(7))]),
                             ["1", "6", "1", "6", "1", "1"])
            self.assertEqual(texts([*keeper.position("ann"), *keeper.close("ann")]), ["1", "3", "6", "0", "12"])

    def test_numbers_of_pools_and_curves_may_be_integers_or_ratios(self):
        for number in (lambda top: top, Ratio, lambda top: Ratio(top * 7, 7)):
            made = Pool(profile("1 3 6"), number(2), number(0))
            self.assertTrue(made == pool("1 3 6", root=2))
            curve = curve_of(made, "b")
            after, taken, left = trade(made, "b", number(7))
            self.assertEqual(texts([after.root, taken, left]), ["3", "1", "1"])
            self.assertEqual(texts([steps(made, "b", number(6))[0][4], needed(made, "b", number(1)),
                                    to_root(made, number(1))[1]]), ["1", "6", "3"])
            self.assertEqual(texts([curve.told(number(6)), curve.needed(number(1)), curve.rate(number(0)),
                                    best_for([curve], number(6))[1]]), ["1", "6", "1/4", "1"])
            self.assertIsNone(above(curve, number(1)))

    def test_what_is_returned_are_ratios(self):
        made, other = pool("1 3 6", "4 5 2", root=2), pool("1 3 6", "4 5 2", root=3)
        curve = curve_of(made, "b")
        found = [made.root, made.fee, *trade(made, "b", 0)[1:], *trade(pool(root=1), "a", 0)[1:], *steps(made, "b", 7)[1],
                 most(made, "a"), most(pool(root=1), "a"), needed(made, "b", 0), needed(pool(root=1), "b", 0),
                 rate(made, "a"), *to_root(made, 2)[1:], *to_root(made, 3)[1:], parting(made, other)[0][1],
                 *curve.pieces()[0], curve.end(), curve_of(other, "a").end(), curve.told(0), curve.needed(0),
                 curve.rate(0), less_at(curve_of(other, "b"), curve), same_until(curve, curve),
                 best_for([curve], 0)[1], above(curve_of(made, "a"), 0), same_until(curve, curve_of(other, "b"))]
        for number in found:
            self.assertIs(type(number), Ratio)

    def test_errors_are_pool_errors_of_the_class_that_is_named(self):
        one_pool, lent = Web({"a": ("x", "y", pool(root=2))}), Keeper(1, 0)
        lent.lend("a", 1, 2, 3)
        short = read_house("add one x y 1 0")
        for error, run in [(BadNumber, lambda: as_ratio(None)), (BadRange, lambda: Position(3, 1, 1)),
                           (BadSize, lambda: Position(1, 3, 0)), (BadRoot, lambda: Profile([]).holds(0)),
                           (Lacking, lambda: Profile([]).without(Position(1, 2, 1))),
                           (BadFee, lambda: Pool(Profile([]), 1, 1)), (BadGood, lambda: most(pool(root=1), "c")),
                           (BadAmount, lambda: trade(pool(root=1), "a", -1)), (NoWay, lambda: to_root(pool(root=1), 2)),
                           (BadGood, lambda: chain_of([], "")), (BadAmount, lambda: best_for([], -1)),
                           (BadName, lambda: Web({"": None})), (BadWeb, lambda: Web({"a": None})),
                           (NoPool, lambda: Web({}).joins("a")), (NoGood, lambda: routes(Web({}), "x", "y")),
                           (BadRoute, lambda: leads_to(one_pool, "x", [])), (TooMuch, lambda: send(one_pool, "x", ["a"], 1)),
                           (BadPrices, lambda: are_fair(one_pool, {})), (BadRing, lambda: ring_gains(one_pool, [])),
                           (NoPosition, lambda: Keeper(1, 0).close("a")), (BadName, lambda: Keeper(1, 0).lend("", 1, 2, 3)),
                           (InUse, lambda: lent.lend("a", 1, 2, 3)), (BadSize, lambda: lent.lessen("a", 4)),
                           (UnlikeFees, lambda: best_split([pool(root=2), pool(root=2, fee="1/2")], "a", 0)),
                           (BadSplit, lambda: yield_of([pool(root=2)], "a", [])), (BadDeed, lambda: do_deed(lent, None)),
                           (BadShare, lambda: lag_at_most(Profile([]), 1, 2, 1, 1)), (NothingToUndo, House().undo),
                           (NothingToRedo, House().redo), (Short, lambda: short.trade("ann", "one", "x", 1)),
                           (BadLine, lambda: read_house("x"))]:
            self.assertIsInstance(self.raised(error, run), PoolError)
            self.assertIsInstance(self.raised(error, run), ValueError)

    def test_errors_name_the_very_value_that_was_passed(self):
        for value in ("1/2", [1, [2]], {"a": (1,)}, (), None, True):
            self.assertIs(self.raised(BadNumber, as_ratio, value).given, value)
            self.assertIs(self.raised(BadNumber, Position, 1, value, 0).given, value)
            self.assertIs(self.raised(BadRoot, Profile([]).size_at, value).given, value)
            self.assertIs(self.raised(BadRoot, Position(1, 3, 6).holds, value).given, value)
            made = pool("1 3 6", root=2)
            curve = curve_of(made, "b")
            for error, run, before, behind in [
                    (BadRoot, Pool, [made.profile], [0]), (BadFee, Pool, [made.profile, 2], []),
                    (BadGood, trade, [made], [1]), (BadAmount, trade, [made, "a"], []), (BadGood, most, [made], []),
                    (BadAmount, needed, [made, "b"], []), (BadRoot, to_root, [made], []), (BadGood, curve_of, [made], []),
                    (BadAmount, curve.told, [], []), (BadAmount, curve.needed, [], []), (BadAmount, curve.rate, [], []),
                    (BadGood, chain_of, [[made]], []), (BadAmount, best_for, [[curve]], []), (BadAmount, above, [curve], [])]:
                self.assertIs(self.raised(error, run, *before, value, *behind).given, value)

    def test_nothing_is_changed_by_an_error(self):
        one = Position(1, 3, 6)
        made = Profile([one])
        self.raised(Lacking, made.without, Position(1, 4, 1))
        self.raised(BadRoot, made.holds, -1)
        self.raised(BadRoot, made.size_at, "1")
        self.raised(BadRoot, one.holds, False)
        self.assertEqual((one.text(), rows(made.stretches())), ("1 3 6", [["1", "3", "6"]]))

    def test_somewhat_beyond_the_limits(self):
        # More than 16 positions, and integers of more than 60 digits, raise no error.
        far = BIGGER ** 3
        made = Profile([Position(Ratio(at, far), at + far, far) for at in range(1, 31)])
        self.assertEqual(len(made.ends()), 60)
        self.assertEqual(made.size_at(1).text(), str(30 * far))
        # What the package returned may be far greater still.
        number = Ratio(far, 7)
        for _ in range(6):
            number = number * number + Ratio(1, 3)
        whole = Position(Ratio(1).over(number), number, number)
        self.assertTrue(Position.read(whole.text()) == whole)
        self.assertTrue(Profile([whole]).without(whole) == Profile([]))

    def test_pools_and_curves_somewhat_beyond_the_limits(self):
        far = BIGGER ** 2 + 2
        made = Pool(Profile([Position(Ratio(at, far), at + far, far) for at in range(1, 21)]), Ratio(7, far), Ratio(1, far))
        chain = chain_of([made, Pool(made.profile, far, Ratio(far - 1, far)), made], "bab")
        for good in "ab":
            after, taken, left = trade(made, good, most(made, good))
            self.assertTrue(left == 0 and curve_of(made, good).told(most(made, good)) == taken)
            self.assertTrue(alike(after, Pool(made.profile, after.root, made.fee)))
        self.assertTrue(chain.needed(chain.told(chain.end())) == chain.end())
        self.assertTrue(never_less(chain, chain))
        # What the package returned may be longer still.
        again = Pool(made.profile, trade(made, "b", chain.end())[0].root, 0)
        self.assertTrue(trade(again, "a", needed(again, "a", 1))[1] == 1)
        self.assertEqual(len(parting(made, again)), 1)


if __name__ == "__main__":
    unittest.main()
