"""[4.1], [4.2], [4.4] and [4.5]: areas, what they share, and what the one lacks of the other."""

import unittest
from itertools import permutations

from pauseplay.errors import InvalidArea, InvalidOperation, InvalidPoint
from pauseplay.lots import areas
from pauseplay.lots.areas import are_equal, area_has, common, is_area, less, thinned
from pauseplay.lots.lots import everything, is_lot_within, lot_or_ring, point_of, rules_of
from tests.drawn import drawn_area, drawn_lot, is_in, is_in_some, looked_at, seeded
from tests.kinds import GREATEST, NOT_AREAS, NOT_CLOCK_NUMBERS, NOT_POINTS, Calls

NO_CLOCKS = (((0, 1),),)
EARLY = lot_or_ring(1, ((1, 0, (3, 1)),))[1]
LATE = lot_or_ring(1, ((0, 1, (-2, 0)),))[1]


def spans(*ends):
    """Lots of one clock from a number to another one: (2, 1, 3, 0) is from 2 on, below 3."""
    return tuple(
        lot_or_ring(1, ((0, 1, (-least, in_least)), (1, 0, (most, in_most))))[1] for least, in_least, most, in_most in ends
    )


class DrawnAreas(Calls, unittest.TestCase):
    def drawn(self, name, many=100, lots=4):
        random = seeded(name)
        for turn in range(many):
            clocks = turn % 5
            yield random, clocks, drawn_area(random, clocks, lots), drawn_area(random, clocks, lots)

    def assert_told(self, clocks, area, points, has):
        """The area has just the points that are told, and none of its lots is within another one of them."""
        self.assertIs(is_area(clocks, area), True)
        for one, other in permutations(area, 2):
            self.assertIs(is_lot_within(one, other), False)
        for point in points:
            self.assertIs(is_in_some(area, point), has(point), (area, point))


class IsAreaTest(Calls, unittest.TestCase):
    def test_constants(self):
        self.assertEqual((areas.MOST_LOTS, areas.MOST_KNOTS), (5000, 4000))

    def test_areas_of_so_many_clocks(self):
        for clocks in range(5):
            self.assertIs(is_area(clocks, ()), True)
            for other in range(5):
                self.assertIs(is_area(clocks, (everything(other),)), clocks == other)
        self.assertIs(is_area(1, (LATE, EARLY)), True)
        self.assertIs(is_area(1, (EARLY, EARLY, LATE)), True)
        self.assertIs(is_area(1, (EARLY, everything(2))), False)
        self.assertIs(is_area(2, (EARLY, everything(2))), False)

    def test_at_most_five_thousand_lots(self):
        for clocks in (0, 4):
            self.assertIs(is_area(clocks, (everything(clocks),) * 5000), True)
            self.assertIs(is_area(clocks, (everything(clocks),) * 5001), False)

    def test_other_values(self):
        for value in NOT_AREAS:
            for clocks in range(5):
                with self.subTest(clocks=clocks):
                    self.assertIs(is_area(clocks, value), False)

    def test_wrong_clocks(self):
        for value in NOT_CLOCK_NUMBERS:
            self.assert_number_refused(value, is_area, value, ())
            self.assert_number_refused(value, is_area, value, None)


class AreaHasTest(DrawnAreas):
    def test_the_points_of_all_lots_together(self):
        for random, clocks, area, _ in self.drawn("area has"):
            for point in looked_at(random, clocks, area):
                with self.subTest(area=area, point=point):
                    self.assertIs(area_has(area, point), is_in_some(area, point))

    def test_no_lots(self):
        for clocks in range(5):
            self.assertIs(area_has((), (3, (0,) * clocks)), False)

    def test_points_that_are_not_in_lowest_terms(self):
        self.assertIs(area_has((EARLY,), (GREATEST, (GREATEST,))), True)
        self.assertIs(area_has((LATE,), (4, (8,))), False)
        self.assertIs(area_has((LATE,), (4, (9,))), True)

    def test_wrong_values(self):
        for value in NOT_AREAS:
            self.assert_refused(InvalidArea, area_has, value, (1, (0,)))
        for value in NOT_POINTS:
            self.assert_refused(InvalidPoint, area_has, (EARLY,), value)
            self.assert_refused(InvalidPoint, area_has, (), value)
        for clocks in (0, 2, 3, 4):
            self.assert_refused(InvalidOperation, area_has, (EARLY,), (1, (0,) * clocks))

    def test_the_first_wrong_value_is_told(self):
        self.assert_refused(InvalidArea, area_has, None, None)
        self.assert_refused(InvalidPoint, area_has, (EARLY,), (0, (1, 2)))


class CommonAndLessTest(DrawnAreas):
    def test_common(self):
        for random, clocks, one, other in self.drawn("common"):
            found = common(one, other)
            with self.subTest(one=one, other=other):
                self.assert_told(
                    clocks, found, looked_at(random, clocks, one + other + found, 6),
                    lambda point: is_in_some(one, point) and is_in_some(other, point),
                )

    def test_less(self):
        for random, clocks, one, other in self.drawn("less"):
            found = less(one, other)
            with self.subTest(one=one, other=other):
                self.assert_told(
                    clocks, found, looked_at(random, clocks, one + other + found[:12], 6),
                    lambda point: is_in_some(one, point) and not is_in_some(other, point),
                )

    def test_what_is_shared_and_what_is_lacked_are_the_area(self):
        for random, clocks, one, other in self.drawn("parted", 60):
            with self.subTest(one=one, other=other):
                self.assertIs(are_equal(common(one, other) + less(one, other), one), True)
                self.assertEqual(common(common(one, other), less(one, other)), ())
                self.assertEqual(common(less(one, other), other), ())

    def test_one_lot_off_another_one_is_told_by_few_lots(self):
        # [4.2]: at most n (n + 1) lots.
        random = seeded("few")
        for turn in range(100):
            clocks = 1 + turn % 4
            lot, other = drawn_lot(random, clocks, 2), drawn_lot(random, clocks, 6)
            self.assertLessEqual(len(less((lot,), (other,))), clocks * (clocks + 1))

    def test_parts_that_come_of_one_lot_share_no_points(self):
        # [4.4]
        random = seeded("parts")
        for turn in range(60):
            clocks = 1 + turn % 4
            found = less((drawn_lot(random, clocks, 2),), tuple(drawn_lot(random, clocks, 6) for _ in range(3)))
            for at, part in enumerate(found):
                self.assertEqual(common((part,), found[:at]), ())

    def test_ends(self):
        self.assertEqual(sorted(less(spans((0, 1, 5, 1)), spans((2, 1, 3, 0)))), sorted(spans((0, 1, 2, 0), (3, 1, 5, 1))))
        self.assertEqual(less(spans((2, 1, 2, 1)), spans((2, 0, 3, 1))), spans((2, 1, 2, 1)))
        self.assertEqual(less(spans((2, 0, 3, 1)), spans((2, 1, 3, 0))), spans((3, 1, 3, 1)))
        self.assertEqual(common(spans((0, 1, 2, 1)), spans((2, 1, 3, 1))), spans((2, 1, 2, 1)))
        self.assertEqual(common(spans((0, 1, 2, 1)), spans((2, 0, 3, 1))), ())
        self.assertEqual(less((LATE,), (everything(1),)), ())
        self.assertEqual(less((everything(1),), (LATE,)), (lot_or_ring(1, ((1, 0, (2, 1)),))[1],))

    def test_nothing_and_equal_lots(self):
        for area in ((), (EARLY,), (EARLY, EARLY), (LATE, EARLY)):
            self.assertEqual(less(area, area), ())
            self.assertEqual(common(area, ()), ())
            self.assertEqual(common((), area), ())
            self.assertEqual(less((), area), ())
            self.assertEqual(set(less(area, ())), set(area))
            self.assertEqual(set(common(area, area + area)), set(common(area, area)))
        self.assertEqual(less((EARLY, EARLY), ()), (EARLY,))
        self.assertEqual(common((EARLY, everything(1)), (EARLY, EARLY)), (EARLY,))
        self.assertEqual(less((NO_CLOCKS,), (NO_CLOCKS,)), ())
        self.assertEqual(less((NO_CLOCKS, NO_CLOCKS), ()), (NO_CLOCKS,))
        self.assertEqual(common((NO_CLOCKS,), (NO_CLOCKS,)), (NO_CLOCKS,))

    def test_lots_without_common_points_that_only_four_bounds_tell(self):
        one = lot_or_ring(3, ((0, 1, (-2, 1)), (2, 3, (0, 0))))[1]
        other = lot_or_ring(3, ((1, 2, (1, 1)), (3, 0, (1, 1))))[1]
        self.assertEqual(common((one,), (other,)), ())
        self.assertEqual(less((one,), (other,)), (one,))
        self.assertEqual(less((other,), (one,)), (other,))
        self.assertIs(are_equal((one,), (other,)), False)

    def test_long_numbers(self):
        long = ((((0, 1), (0, 1)), ((GREATEST, 0), (0, 1))),)
        rest = less((everything(1),), long)
        self.assertEqual(rest, ((((0, 1), (-GREATEST, 1)), (None, (0, 1))),))
        self.assertEqual(common(rest, long), ())

    def test_what_is_lacked_can_need_more_lots(self):
        # [4.5]
        box = lot_or_ring(2, ((1, 0, (2, 1)), (0, 1, (-1, 1)), (2, 0, (2, 1)), (0, 2, (-1, 1))))[1]
        self.assertGreater(len(less((everything(2),), (box,))), 2)

    def test_many_lots(self):
        pieces = spans(*[(number, 1, number + 1, 0) for number in range(400)])
        self.assertEqual(set(less(pieces, pieces[1::2])), set(pieces[::2]))
        self.assertEqual(set(common(pieces, pieces[::3])), set(pieces[::3]))
        self.assertIs(are_equal(pieces, spans((0, 1, 400, 0))), True)
        self.assertIs(are_equal(pieces[:399], spans((0, 1, 400, 0))), False)
        self.assertEqual(less(spans((0, 1, 400, 1)), pieces), spans((400, 1, 400, 1)))


class ThinnedTest(DrawnAreas):
    def test_lots_that_are_not_within_another_one(self):
        for random, clocks, one, other in self.drawn("thinned", 200):
            area = one + other + one[:1]
            kept = []
            for at, lot in enumerate(area):
                ahead = [each for each in area[:at] if is_lot_within(lot, each)]
                behind = [each for each in area[at + 1:] if is_lot_within(lot, each) and each != lot]
                if not ahead and not behind:
                    kept.append(lot)
            with self.subTest(area=area):
                self.assertEqual(thinned(area), tuple(kept))
                self.assertIs(are_equal(thinned(area), area), True)

    def test_the_first_of_equal_ones_in_their_sequence(self):
        self.assertEqual(thinned((EARLY, LATE, EARLY)), (EARLY, LATE))
        self.assertEqual(thinned((LATE, EARLY, EARLY, LATE)), (LATE, EARLY))
        self.assertEqual(thinned((EARLY, everything(1), LATE)), (everything(1),))
        self.assertEqual(thinned((everything(1), everything(1))), (everything(1),))
        self.assertEqual(thinned(()), ())
        self.assertEqual(thinned((NO_CLOCKS,) * 3), (NO_CLOCKS,))
        self.assertEqual(thinned((everything(4),) * 5000), (everything(4),))

    def test_a_lot_within_two_others_together_stays(self):
        area = spans((0, 1, 2, 1), (1, 1, 3, 1), (2, 1, 5, 1))
        self.assertEqual(thinned(area), area)

    def test_equal_areas_need_not_have_equal_lots(self):
        # [4.5]
        one, other = (EARLY, LATE), (everything(1),)
        self.assertIs(are_equal(one, other), True)
        self.assertNotEqual(thinned(one), thinned(other))

    def test_wrong_values(self):
        for value in NOT_AREAS:
            self.assert_refused(InvalidArea, thinned, value)


class AreEqualTest(DrawnAreas):
    def test_areas_cut_in_other_ways_are_equal(self):
        for random, clocks, one, other in self.drawn("equal"):
            told = less(one, other) + common(one, other)[::-1]
            with self.subTest(one=one, other=other):
                self.assertIs(are_equal(one, told), True)
                self.assertIs(are_equal(told, one), True)

    def test_areas_that_lack_a_point_are_not(self):
        found = 0
        for random, clocks, one, other in self.drawn("unlike"):
            rest = less(one, other)
            if rest and other:
                found += 1
                with self.subTest(one=one, other=other):
                    self.assertTrue(is_in_some(one, point_of(rest[0])) and not is_in_some(other, point_of(rest[0])))
                    self.assertIs(are_equal(other, other + one), False)
                    self.assertIs(are_equal(other + one, other), False)
        self.assertGreater(found, 15)

    def test_each_lot_cut_once(self):
        random = seeded("cut once")
        for turn in range(60):
            clocks = 1 + turn % 4
            lot = drawn_lot(random, clocks)
            for one, other, (number, end) in rules_of(drawn_lot(random, clocks)):
                parts = []
                for rule in ((one, other, (number, end)), (other, one, (-number, 1 - end))):
                    kind, part = lot_or_ring(clocks, rules_of(lot) + (rule,))
                    parts.extend([part] if kind == "lot" else [])
                self.assertIs(are_equal((lot,), tuple(parts)), True)
                self.assertIs(are_equal((lot,), tuple(parts[1:])), len(parts) == 0)

    def test_ends(self):
        self.assertIs(are_equal(spans((0, 1, 2, 0), (2, 1, 3, 1)), spans((0, 1, 3, 1))), True)
        self.assertIs(are_equal(spans((0, 1, 2, 0), (2, 0, 3, 1)), spans((0, 1, 3, 1))), False)
        self.assertIs(are_equal((), ()), True)
        self.assertIs(are_equal((EARLY,), ()), False)
        self.assertIs(are_equal((), (EARLY,)), False)
        self.assertIs(are_equal((EARLY, EARLY), (EARLY,)), True)
        self.assertIs(are_equal((NO_CLOCKS,), (NO_CLOCKS, NO_CLOCKS)), True)

    def test_a_lot_within_no_one_lot_of_an_area_that_has_it(self):
        # [4.5]
        whole = spans((0, 1, 4, 1))[0]
        halves = spans((0, 1, 2, 1), (2, 1, 4, 1))
        self.assertIs(are_equal((whole,), halves), True)
        self.assertFalse(any(is_lot_within(whole, half) for half in halves))
        self.assertTrue(is_in(whole, (1, (4,))))


class WrongValuesTest(Calls, unittest.TestCase):
    def test_wrong_areas(self):
        for call in (common, less, are_equal):
            for value in NOT_AREAS:
                self.assert_refused(InvalidArea, call, value, ())
                self.assert_refused(InvalidArea, call, (), value)
                self.assert_refused(InvalidArea, call, (everything(1),), value)

    def test_unlike_numbers_of_clocks(self):
        for call in (common, less, are_equal):
            for clocks in (0, 1, 3, 4):
                self.assert_refused(InvalidOperation, call, (everything(2),), (everything(clocks),))

    def test_the_first_wrong_value_is_told(self):
        for call in (common, less, are_equal):
            self.assert_refused(InvalidArea, call, (everything(2),), (everything(1), None))
            self.assert_refused(InvalidArea, call, None, None)


if __name__ == "__main__":
    unittest.main()
