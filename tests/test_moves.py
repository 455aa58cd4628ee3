"""Stage 3: lots that are met and cut, later and earlier ones, freed ones, and those of clocks that are set back."""

import unittest
from fractions import Fraction

from pauseplay.base.points import are_same, later, set_back
from pauseplay.errors import InvalidLot, InvalidOperation, InvalidPoint
from pauseplay.lots.lots import everything, is_lot, is_lot_within, is_ring, lot_or_ring, rules_of
from pauseplay.lots.moves import (
    ahead_of_back, back_from, back_lot, cut, earlier_lot, freed_lot, later_lot, meet, pause_into,
)
from tests.drawn import (
    crossings, drawn_lot, drawn_point, drawn_rule, is_in, keeps, looked_at, point_showing, seeded, shown_by, subsets,
)
from tests.kinds import GREATEST, NOT_INTEGERS, NOT_LOTS, NOT_POINTS, NOT_RULES, Calls

NO_CLOCKS = (((0, 1),),)
THIN = lot_or_ring(1, ((1, 0, (1, 0)), (0, 1, (0, 0))))[1]
BOX = lot_or_ring(2, ((1, 0, (3, 1)), (0, 1, (-1, 1)), (2, 1, (0, 0)), (0, 2, (0, 1))))[1]

NOT_CLOCKS_OF_TWO = (
    (0,), (3,), (-1,), (1, 1), (2, 1), (1, 2, 3), (0, 1), [], [1], [1, 2], 1, 0, None, True, False, "", "1", {}, {1: 1},
    ((1,),), ([1],), (1, "2"), (1, None), (True,), (1, True), (False,), (10 ** 60,),
) + tuple((part,) for part in NOT_INTEGERS)


def moved(point, step):
    """The point whose clocks show so much more, None if one would show less than nought."""
    shown = [number + step for number in shown_by(point)[1:]]
    return None if any(number < 0 for number in shown) else point_showing(shown)


def steps_to_look_at(lot, point):
    """Steps of all clocks at which some bound of the lot begins or ends, and those between: all are alike there."""
    shown = shown_by(point)
    ends = [number for number in shown[1:]]
    for clock in range(1, len(lot)):
        for bound, sign in ((lot[clock][0], 1), (lot[0][clock], -1)):
            if bound is not None:
                ends.extend([sign * bound[0] - shown[clock], shown[clock] - sign * bound[0]])
    return crossings(ends)


def with_clock(point, clock, number):
    """The point with one clock showing another number."""
    shown = shown_by(point)[1:]
    shown[clock - 1] = number
    return point_showing(shown)


def numbers_to_look_at(lot, clock, point):
    """Numbers of a clock at which some bound of the lot begins or ends, and those between."""
    shown = shown_by(point)
    ends = []
    for other in range(len(lot)):
        if other != clock:
            for bound, sign in ((lot[clock][other], 1), (lot[other][clock], -1)):
                if bound is not None:
                    ends.append(shown[other] + sign * bound[0])
    return crossings(ends)


def simplest_told(numbers_do, most=60):
    """The number with the least q, and of these the least one, that does."""
    for bottom in range(1, most):
        for top in range(0, 30 * bottom):
            if numbers_do(Fraction(top, bottom)):
                return Fraction(top, bottom)
    return None


class DrawnLots(Calls, unittest.TestCase):
    """Drawn lots, with points to look at."""

    def drawn(self, name, many=60, rules=4):
        random = seeded(name)
        for turn in range(many):
            lot = drawn_lot(random, turn % 5, rules)
            yield random, turn % 5, lot

    def assert_points(self, found, clocks, points, has):
        """The lot has just the points that are told, and is a lot."""
        self.assertTrue(found is None or (is_lot(found) and len(found) == clocks + 1))
        for point in points:
            self.assertIs(found is not None and is_in(found, point), has(point), (found, point))


class MeetTest(DrawnLots):
    def test_the_points_that_two_lots_share(self):
        kinds = [0, 0]
        for random, clocks, lot in self.drawn("meet", 150):
            other = drawn_lot(random, clocks)
            found = meet(lot, other)
            kinds[found is None] += 1
            with self.subTest(lot=lot, other=other):
                points = looked_at(random, clocks, [each for each in (lot, other, found) if each is not None])
                self.assert_points(found, clocks, points, lambda point: is_in(lot, point) and is_in(other, point))
                rules = rules_of(lot) + rules_of(other)
                kind, told = lot_or_ring(clocks, rules)
                if found is None:
                    self.assertEqual((kind, is_ring(clocks, rules, told)), ("ring", True))
                else:
                    self.assertEqual((kind, told), ("lot", found))
                self.assertEqual(meet(other, lot), found)
        self.assertGreater(min(kinds), 10)

    def test_ends(self):
        below, above = lot_or_ring(1, ((1, 0, (2, 1)),))[1], lot_or_ring(1, ((0, 1, (-2, 1)),))[1]
        self.assertEqual(meet(below, above), (((0, 1), (-2, 1)), ((2, 1), (0, 1))))
        self.assertIsNone(meet(lot_or_ring(1, ((1, 0, (2, 0)),))[1], above))
        self.assertIsNone(meet(below, lot_or_ring(1, ((0, 1, (-2, 0)),))[1]))
        self.assertEqual(meet(NO_CLOCKS, NO_CLOCKS), NO_CLOCKS)

    def test_lots_without_common_points_that_only_four_bounds_tell(self):
        one = lot_or_ring(3, ((0, 1, (-2, 1)), (2, 3, (0, 0))))[1]
        other = lot_or_ring(3, ((1, 2, (1, 1)), (3, 0, (1, 1))))[1]
        self.assertIsNone(meet(one, other))
        self.assertEqual(meet(lot_or_ring(3, ((0, 1, (-2, 1)), (2, 3, (0, 1))))[1], other)[1][0], (2, 1))

    def test_sixty_digits(self):
        one = (((0, 1), (0, 1), (0, 1)), (None, (0, 1), (GREATEST, 1)), (None, None, (0, 1)))
        other = (((0, 1), (0, 1), (0, 1)), (None, (0, 1), None), ((GREATEST, 0), (GREATEST, 0), (0, 1)))
        self.assertEqual(meet(one, other)[1][0], (2 * GREATEST, 0))

    def test_wrong_values(self):
        for value in NOT_LOTS:
            self.assert_refused(InvalidLot, meet, value, everything(1))
            self.assert_refused(InvalidLot, meet, everything(1), value)
        for clocks in (0, 1, 3, 4):
            self.assert_refused(InvalidOperation, meet, everything(2), everything(clocks))
        self.assert_refused(InvalidLot, meet, everything(2), None)
        self.assert_refused(InvalidLot, meet, None, everything(2))


class CutTest(DrawnLots):
    def test_the_points_that_keep_the_rule(self):
        kinds = [0, 0]
        for random, clocks, lot in self.drawn("cut", 200):
            if clocks == 0:
                continue
            rule = drawn_rule(random, clocks)
            found = cut(lot, rule)
            kinds[found is None] += 1
            with self.subTest(lot=lot, rule=rule):
                points = looked_at(random, clocks, [each for each in (lot, found) if each is not None])
                self.assert_points(found, clocks, points, lambda point: is_in(lot, point) and keeps(point, rule))
                kind, told = lot_or_ring(clocks, rules_of(lot) + (rule,))
                self.assertEqual((kind, told if kind == "lot" else None), ("ring" if found is None else "lot", found))
        self.assertGreater(min(kinds), 10)

    def test_ends(self):
        self.assertEqual(cut(THIN, (1, 0, (1, 1))), THIN)
        self.assertEqual(cut(THIN, (1, 0, (1, 0))), THIN)
        self.assertIsNone(cut(THIN, (1, 0, (0, 1))))
        self.assertIsNone(cut(THIN, (0, 1, (-1, 1))))
        self.assertIsNone(cut(everything(1), (1, 0, (0, 0))))
        self.assertEqual(cut(everything(1), (1, 0, (0, 1))), (((0, 1), (0, 1)), ((0, 1), (0, 1))))

    def test_wrong_values(self):
        for value in NOT_LOTS:
            self.assert_refused(InvalidLot, cut, value, (1, 0, (1, 1)))
        for value in NOT_RULES + ((2, 0, (1, 1)), (1, 2, (1, 1))):
            self.assert_refused(InvalidOperation, cut, everything(1), value)
        self.assert_refused(InvalidOperation, cut, NO_CLOCKS, (1, 0, (1, 1)))
        self.assert_refused(InvalidLot, cut, None, None)


class WaitingTest(DrawnLots):
    def is_later(self, lot, point):
        """Whether some point of the lot, with all clocks at so much less, waits to the point."""
        less = [moved(point, -step) for step in steps_to_look_at(lot, point)]
        return any(each is not None and is_in(lot, each) for each in less)

    def is_earlier(self, lot, point):
        return any(is_in(lot, moved(point, step)) for step in steps_to_look_at(lot, point))

    def test_later(self):
        for random, clocks, lot in self.drawn("later", 100):
            found = later_lot(lot)
            with self.subTest(lot=lot):
                self.assert_points(
                    found, clocks, looked_at(random, clocks, (lot, found)), lambda point: self.is_later(lot, point)
                )
                for at, row in enumerate(found):
                    for to, bound in enumerate(row):
                        self.assertEqual(bound, None if at > 0 and to == 0 else lot[at][to])
                self.assertIs(is_lot_within(lot, found), True)
                self.assertEqual(later_lot(found), found)

    def test_earlier(self):
        for random, clocks, lot in self.drawn("earlier", 100):
            found = earlier_lot(lot)
            with self.subTest(lot=lot):
                self.assert_points(
                    found, clocks, looked_at(random, clocks, (lot, found)), lambda point: self.is_earlier(lot, point)
                )
                self.assertEqual(found[1:], lot[1:])
                self.assertIs(is_lot_within(lot, found), True)
                self.assertEqual(earlier_lot(found), found)

    def test_ends(self):
        self.assertEqual(later_lot(THIN), (((0, 1), (0, 0)), (None, (0, 1))))
        self.assertEqual(earlier_lot(THIN), (((0, 1), (0, 1)), ((1, 0), (0, 1))))
        self.assertEqual(later_lot(NO_CLOCKS), NO_CLOCKS)
        self.assertEqual(earlier_lot(NO_CLOCKS), NO_CLOCKS)
        for clocks in range(5):
            self.assertEqual(later_lot(everything(clocks)), everything(clocks))
            self.assertEqual(earlier_lot(everything(clocks)), everything(clocks))

    def test_what_waits_into_both_lots_need_not_wait_into_their_meet(self):
        # [3.6]
        one = lot_or_ring(1, ((1, 0, (1, 1)), (0, 1, (-1, 1))))[1]
        other = lot_or_ring(1, ((1, 0, (2, 1)), (0, 1, (-2, 1))))[1]
        self.assertIsNone(meet(one, other))
        self.assertTrue(is_in(earlier_lot(one), (1, (0,))) and is_in(earlier_lot(other), (1, (0,))))

    def test_wrong_values(self):
        for value in NOT_LOTS:
            self.assert_refused(InvalidLot, later_lot, value)
            self.assert_refused(InvalidLot, earlier_lot, value)


class SetBackTest(DrawnLots):
    def test_one_clock_is_freed(self):
        for random, clocks, lot in self.drawn("freed", 80):
            for clock in range(1, clocks + 1):
                found = freed_lot(lot, (clock,))
                with self.subTest(lot=lot, clock=clock):
                    self.assert_points(
                        found, clocks, looked_at(random, clocks, (lot, found), 6),
                        lambda point: any(
                            is_in(lot, with_clock(point, clock, number)) for number in numbers_to_look_at(lot, clock, point)
                        ),
                    )

    def test_several_clocks_are_freed_one_after_the_other(self):
        for random, clocks, lot in self.drawn("freed together", 40):
            for chosen in subsets(clocks):
                found = freed_lot(lot, chosen)
                with self.subTest(lot=lot, clocks=chosen):
                    for order in (chosen, chosen[::-1]):
                        told = lot
                        for clock in order:
                            told = freed_lot(told, (clock,))
                        self.assertEqual(told, found)
                    self.assertEqual(freed_lot(found, chosen), found)
                    self.assertIs(is_lot_within(lot, found), True)

    def test_set_back(self):
        for random, clocks, lot in self.drawn("back", 40):
            for chosen in subsets(clocks):
                found = back_lot(lot, chosen)
                freed = freed_lot(lot, chosen)
                with self.subTest(lot=lot, clocks=chosen):
                    points = looked_at(random, clocks, (lot, found), 4)
                    self.assert_points(
                        found, clocks, points + [set_back(point, chosen) for point in points],
                        lambda point: is_in(freed, point) and all(point[1][clock - 1] == 0 for clock in chosen),
                    )
                    for point in points:
                        if is_in(lot, point):
                            self.assertTrue(is_in(found, set_back(point, chosen)))

    def test_ahead_of_setting_back(self):
        kinds = [0, 0]
        for random, clocks, lot in self.drawn("ahead", 60):
            for chosen in subsets(clocks):
                found = ahead_of_back(lot, chosen)
                kinds[found is None] += 1
                with self.subTest(lot=lot, clocks=chosen):
                    self.assert_points(
                        found, clocks, looked_at(random, clocks, (lot,) if found is None else (lot, found), 4),
                        lambda point: is_in(lot, set_back(point, chosen)),
                    )
                    if found is None:
                        rules = rules_of(lot) + tuple((clock, 0, (0, 1)) for clock in chosen)
                        self.assertEqual(lot_or_ring(clocks, rules)[0], "ring")
        self.assertGreater(min(kinds), 50)

    def test_no_clocks(self):
        for lot in (NO_CLOCKS, THIN, BOX):
            self.assertEqual(freed_lot(lot, ()), lot)
            self.assertEqual(back_lot(lot, ()), lot)
            self.assertEqual(ahead_of_back(lot, ()), lot)

    def test_all_clocks(self):
        nought = lot_or_ring(4, tuple((clock, 0, (0, 1)) for clock in range(1, 5)))[1]
        self.assertEqual(back_lot(everything(4), (1, 2, 3, 4)), nought)
        self.assertEqual(freed_lot(nought, (1, 2, 3, 4)), everything(4))
        self.assertEqual(ahead_of_back(nought, (1, 2, 3, 4)), everything(4))
        self.assertIsNone(ahead_of_back(cut(everything(4), (0, 4, (0, 0))), (1, 2, 3, 4)))

    def test_what_is_not_true(self):
        # [3.6]: what is set back and then freed need not be the lot, and need not share a point with it.
        lot = lot_or_ring(1, ((0, 1, (-1, 1)),))[1]
        self.assertNotEqual(freed_lot(back_lot(lot, (1,)), (1,)), lot)
        self.assertIsNone(meet(lot, back_lot(lot, (1,))))

    def test_wrong_values(self):
        for call in (freed_lot, back_lot, ahead_of_back):
            for value in NOT_LOTS:
                self.assert_refused(InvalidLot, call, value, ())
            for value in NOT_CLOCKS_OF_TWO:
                self.assert_refused(InvalidOperation, call, BOX, value)
            self.assert_refused(InvalidOperation, call, NO_CLOCKS, (1,))
            self.assert_refused(InvalidOperation, call, everything(4), (1, 5))
            self.assert_refused(InvalidLot, call, None, None)


class PauseIntoTest(DrawnLots):
    def test_either_a_pause_or_not_in_the_earlier_lot(self):
        found = 0
        for random, clocks, lot in self.drawn("pause", 150):
            for point in looked_at(random, clocks, (lot,), 4)[:14]:
                pause = pause_into(lot, point)
                with self.subTest(lot=lot, point=point):
                    self.assertIs(pause is not None, is_in(earlier_lot(lot), point))
                    if pause is not None:
                        found += 1
                        self.assertTrue(is_in(lot, later(point, pause)))
                        self.assertEqual(
                            Fraction(*pause), simplest_told(lambda number: is_in(lot, moved(point, number)), pause[1] + 1)
                        )
                        self.assertEqual((Fraction(*pause).numerator, Fraction(*pause).denominator), pause)
        self.assertGreater(found, 500)

    def test_ends(self):
        self.assertEqual(pause_into(THIN, (1, (0,))), (1, 2))
        self.assertEqual(pause_into(THIN, (2, (1,))), (0, 1))
        self.assertEqual(pause_into(THIN, (3, (2,))), (0, 1))
        self.assertIsNone(pause_into(THIN, (1, (1,))))
        self.assertEqual(pause_into(NO_CLOCKS, (3, ())), (0, 1))
        spot = lot_or_ring(2, ((1, 0, (3, 1)), (0, 1, (-3, 1)), (2, 1, (1, 1)), (1, 2, (-1, 1))))[1]
        self.assertEqual(pause_into(spot, (6, (3, 9))), (5, 2))
        self.assertIsNone(pause_into(spot, (6, (3, 10))))
        self.assertIsNone(pause_into(spot, (1, (4, 5))))

    def test_where_the_least_one_is_left_out_and_the_greatest_is_there(self):
        lot = lot_or_ring(2, ((0, 1, (-1, 0)), (2, 0, (3, 1))))[1]
        self.assertEqual(pause_into(lot, (3, (0, 5))), (4, 3))
        self.assertEqual(pause_into(lot, (1, (0, 1))), (2, 1))

    def test_long_bottoms(self):
        lot = lot_or_ring(1, ((0, 1, (-3, 1)), (1, 0, (3, 1))))[1]
        self.assertEqual(pause_into(lot, (GREATEST, (1,))), (3 * GREATEST - 1, GREATEST))
        self.assertEqual(pause_into(THIN, (GREATEST, (1,))), (0, 1))
        self.assertEqual(pause_into(THIN, (GREATEST, (GREATEST - 1,))), (0, 1))

    def test_wrong_values(self):
        for value in NOT_LOTS:
            self.assert_refused(InvalidLot, pause_into, value, (1, (0,)))
        for value in NOT_POINTS + ((1, ()), (1, (0, 0))):
            self.assert_refused(InvalidPoint, pause_into, everything(1), value)
        self.assert_refused(InvalidLot, pause_into, None, None)


class BackFromTest(DrawnLots):
    def test_either_a_point_or_none(self):
        found = 0
        for random, clocks, lot in self.drawn("back from", 60):
            for chosen in subsets(clocks):
                for point in looked_at(random, clocks, (lot,), 3)[:6]:
                    told = set_back(point, chosen)
                    back = back_from(lot, chosen, told)
                    with self.subTest(lot=lot, clocks=chosen, point=told):
                        self.assertIs(back is not None, is_in(back_lot(lot, chosen), told))
                        if back is not None:
                            found += 1
                            self.assert_back(lot, chosen, told, back)
        self.assertGreater(found, 300)

    def assert_back(self, lot, chosen, point, back):
        self.assertTrue(is_in(lot, back))
        self.assertEqual(back, point_showing(shown_by(back)[1:]))
        self.assertIs(are_same(set_back(back, chosen), point), True)
        # Each clock shows the simplest number for which those behind it can show some.
        told = point
        for at, clock in enumerate(chosen):
            rest = freed_lot(lot, chosen[at + 1:])
            number = shown_by(back)[clock]
            self.assertEqual(
                number,
                simplest_told(lambda each: is_in(rest, with_clock(told, clock, each)), number.denominator + 1),
            )
            told = with_clock(told, clock, number)

    def test_clocks_that_are_not_at_nought(self):
        self.assertIsNone(back_from(everything(2), (1,), (1, (1, 0))))
        self.assertIsNone(back_from(everything(2), (1, 2), (5, (0, 1))))
        self.assertEqual(back_from(everything(2), (1, 2), (5, (0, 0))), (1, (0, 0)))
        self.assertEqual(back_from(everything(2), (2,), (10, (5, 0))), (2, (1, 0)))

    def test_no_clock_is_set_back(self):
        self.assertEqual(back_from(THIN, (), (4, (2,))), (2, (1,)))
        self.assertIsNone(back_from(THIN, (), (4, (4,))))
        self.assertEqual(back_from(NO_CLOCKS, (), (7, ())), (1, ()))

    def test_the_simplest_numbers_one_after_the_other(self):
        crowded = lot_or_ring(4, ((4, 0, (1, 0)), (0, 1, (0, 0)), (1, 2, (0, 0)), (2, 3, (0, 0)), (3, 4, (0, 0))))[1]
        self.assertEqual(back_from(crowded, (1, 2, 3, 4), (1, (0, 0, 0, 0))), (60, (30, 40, 45, 48)))
        self.assertEqual(back_from(crowded, (1, 2), (60, (0, 0, 40, 45))), (60, (30, 36, 40, 45)))

    def test_wrong_values(self):
        for value in NOT_LOTS:
            self.assert_refused(InvalidLot, back_from, value, (), (1, (0,)))
        for value in NOT_CLOCKS_OF_TWO:
            self.assert_refused(InvalidOperation, back_from, BOX, value, (1, (0, 0)))
        for value in NOT_POINTS + ((1, ()), (1, (0,)), (1, (0, 0, 0))):
            self.assert_refused(InvalidPoint, back_from, BOX, (1,), value)

    def test_the_first_wrong_value_is_told(self):
        self.assert_refused(InvalidLot, back_from, None, None, None)
        self.assert_refused(InvalidOperation, back_from, BOX, (3,), None)


class TogetherTest(DrawnLots):
    """[3.5]: for all lots, clocks and rules."""

    def test_what_waits_into_the_meet_waits_into_both(self):
        for random, clocks, lot in self.drawn("together"):
            other = drawn_lot(random, clocks)
            met = meet(lot, other)
            if met is not None:
                self.assertIs(is_lot_within(earlier_lot(met), earlier_lot(lot)), True)
                self.assertIs(is_lot_within(earlier_lot(met), earlier_lot(other)), True)

    def test_a_run_of_moves(self):
        for random, clocks, lot in self.drawn("run"):
            point = drawn_point(random, clocks)
            chosen = random.choice(subsets(clocks))
            pause = pause_into(lot, point)
            if pause is not None:
                behind = set_back(later(point, pause), chosen)
                self.assertTrue(is_in(back_lot(lot, chosen), behind))
                self.assertTrue(is_in(later_lot(back_lot(lot, chosen)), later(behind, (1, 3))))

    def test_points_ahead_of_later_points_of_what_is_set_back(self):
        for random, clocks, lot in self.drawn("ahead of later"):
            chosen = random.choice(subsets(clocks))
            ahead = ahead_of_back(earlier_lot(lot), chosen)
            for point in looked_at(random, clocks, (lot,), 3):
                goes = pause_into(lot, set_back(point, chosen)) is not None
                self.assertIs(ahead is not None and is_in(ahead, point), goes)


if __name__ == "__main__":
    unittest.main()
