"""[2.2], [2.3] and [2.5]: lots, their points, lots within lots, and rules that tell a lot."""

import unittest
from math import gcd

from pauseplay.errors import InvalidLot, InvalidOperation, InvalidPoint
from pauseplay.lots.lots import everything, has_point, is_lot, is_lot_within, lot_or_ring, point_of, rules_of
from tests.drawn import drawn_lot, is_in, keeps_all, looked_at, seeded
from tests.kinds import GREATEST, NOT_CLOCK_NUMBERS, NOT_LOTS, NOT_POINTS, TOO_GREAT, Calls

THIN = lot_or_ring(1, ((1, 0, (1, 0)), (0, 1, (0, 0))))[1]
NO_CLOCKS = (((0, 1),),)
SPOT = lot_or_ring(2, ((1, 0, (1, 1)), (0, 1, (-1, 1)), (2, 1, (2, 1)), (1, 2, (-2, 1))))[1]

# Numbers of 20 digits: all fractions between two integers, one above the other in four clocks.
FAR = 10 ** 20 - 9
CROWDED = (
    tuple((clock, 0, (FAR + 1, 0)) for clock in range(1, 5))
    + ((0, 1, (-FAR, 0)), (1, 2, (0, 0)), (2, 3, (0, 0)), (3, 4, (0, 0)))
)


def lot_of_long_rules(clocks, rules):
    """The lot of rules whose numbers are too long for rules: made tight here, by plain sums."""
    rows = [[(0, 1) if at in (0, to) else None for to in range(clocks + 1)] for at in range(clocks + 1)]
    for one, other, bound in rules:
        rows[one][other] = bound if rows[one][other] is None else min(bound, rows[one][other])
    for middle in range(clocks + 1):
        for at in range(clocks + 1):
            for to in range(clocks + 1):
                first, last = rows[at][middle], rows[middle][to]
                if first is not None and last is not None:
                    whole = (first[0] + last[0], first[1] * last[1])
                    rows[at][to] = whole if rows[at][to] is None else min(whole, rows[at][to])
    return tuple(tuple(row) for row in rows)


class IsLotTest(Calls, unittest.TestCase):
    def test_lots(self):
        for lot in (NO_CLOCKS, THIN, SPOT, everything(4)):
            self.assertIs(is_lot(lot), True)
        random = seeded("lots")
        for turn in range(100):
            self.assertIs(is_lot(drawn_lot(random, turn % 5)), True)

    def test_each_entry_that_is_changed_makes_another_lot_or_none(self):
        # An entry that is made less or greater is still tight just if no sum of others is less than it, and none
        # of the others is made greater than a sum with it: this is looked at plainly.
        random = seeded("entries")
        for turn in range(40):
            lot = drawn_lot(random, 1 + turn % 4)
            for at in range(len(lot)):
                for to in range(len(lot)):
                    for bound in (None, (0, 1), (0, 0), (1, 1), (-1, 0), (3, 1)):
                        rows = [list(row) for row in lot]
                        rows[at][to] = bound
                        value = tuple(tuple(row) for row in rows)
                        with self.subTest(value=value):
                            self.assertIs(is_lot(value), self.is_tight_told(value))

    def is_tight_told(self, value):
        many = len(value)
        great = (10 ** 9, 1)
        rows = [[great if bound is None else bound for bound in row] for row in value]
        if any(rows[at][at] != (0, 1) or rows[0][at] > (0, 1) for at in range(many)):
            return False
        for at in range(many):
            for middle in range(many):
                for to in range(many):
                    first, last = rows[at][middle], rows[middle][to]
                    if great not in (first, last) and rows[at][to] > (first[0] + last[0], first[1] * last[1]):
                        return False
        return True

    def test_sixty_digits(self):
        for end in (0, 1):
            self.assertIs(is_lot((((0, 1), (0, 1)), ((GREATEST, end), (0, 1)))), True)
            self.assertIs(is_lot((((0, 1), (0, 1)), ((TOO_GREAT, end), (0, 1)))), False)
            self.assertIs(is_lot((((0, 1), (-GREATEST, end)), (None, (0, 1)))), True)
            self.assertIs(is_lot((((0, 1), (-TOO_GREAT, end)), (None, (0, 1)))), False)

    def test_numbers_whose_sums_are_longer(self):
        rows = (((0, 1), (0, 1), (0, 1)), ((GREATEST, 1), (0, 1), (GREATEST, 1)), (None, (GREATEST, 1), (0, 1)))
        self.assertIs(is_lot(rows), False)
        self.assertIs(is_lot(lot_of_long_rules(2, ((1, 0, (10 ** 59, 1)), (2, 1, (10 ** 59, 0))))), True)

    def test_other_values(self):
        for value in NOT_LOTS:
            with self.subTest():
                self.assertIs(is_lot(value), False)

    def test_no_lot_is_empty(self):
        for ends in ((0, 1), (1, 0), (0, 0)):
            self.assertIs(is_lot((((0, 1), (-1, ends[0])), ((1, ends[1]), (0, 1)))), False)
        self.assertIs(is_lot((((0, 1), (-1, 1)), ((1, 1), (0, 1)))), True)


class EverythingTest(Calls, unittest.TestCase):
    def test_the_lot_of_all_points(self):
        self.assertEqual(everything(0), NO_CLOCKS)
        self.assertEqual(everything(1), (((0, 1), (0, 1)), (None, (0, 1))))
        self.assertEqual(
            everything(2), (((0, 1), (0, 1), (0, 1)), (None, (0, 1), None), (None, None, (0, 1)))
        )
        random = seeded("everything")
        for clocks in range(5):
            self.assertIs(is_lot(everything(clocks)), True)
            for point in looked_at(random, clocks, (everything(clocks),)):
                self.assertIs(has_point(everything(clocks), point), True)

    def test_wrong_clocks(self):
        for value in NOT_CLOCK_NUMBERS:
            self.assert_number_refused(value, everything, value)


class HasPointTest(Calls, unittest.TestCase):
    def test_drawn_points(self):
        random = seeded("points")
        for turn in range(100):
            clocks = turn % 5
            lot = drawn_lot(random, clocks)
            for point in looked_at(random, clocks, (lot,)):
                with self.subTest(lot=lot, point=point):
                    self.assertIs(has_point(lot, point), is_in(lot, point))

    def test_points_that_are_not_in_lowest_terms(self):
        self.assertIs(has_point(SPOT, (4, (4, 12))), True)
        self.assertIs(has_point(SPOT, (4, (4, 11))), False)
        self.assertIs(has_point(SPOT, (7, (7, 21))), True)
        self.assertIs(has_point(THIN, (10, (5,))), True)
        self.assertIs(has_point(THIN, (10, (10,))), False)
        self.assertIs(has_point(NO_CLOCKS, (10, ())), True)

    def test_long_bottoms(self):
        self.assertIs(has_point(THIN, (GREATEST, (1,))), True)
        self.assertIs(has_point(THIN, (GREATEST, (GREATEST - 1,))), True)
        self.assertIs(has_point(THIN, (GREATEST, (GREATEST,))), False)
        self.assertIs(has_point(THIN, (GREATEST, (0,))), False)
        self.assertIs(has_point(SPOT, (GREATEST // 3, (GREATEST // 3, GREATEST))), True)
        self.assertIs(has_point(SPOT, (GREATEST // 3, (GREATEST // 3, GREATEST - 1))), False)

    def test_wrong_values(self):
        for value in NOT_LOTS:
            self.assert_refused(InvalidLot, has_point, value, (1, (0,)))
        for value in NOT_POINTS + ((1, ()), (1, (0, 0)), (1, (0, 0, 0, 0))):
            self.assert_refused(InvalidPoint, has_point, everything(1), value)
        self.assert_refused(InvalidPoint, has_point, NO_CLOCKS, (1, (0,)))

    def test_the_first_wrong_value_is_told(self):
        self.assert_refused(InvalidLot, has_point, None, None)


class PointOfTest(Calls, unittest.TestCase):
    def assert_point(self, lot):
        point = point_of(lot)
        self.assertTrue(is_in(lot, point))
        self.assertEqual(len(point[1]), len(lot) - 1)
        self.assertEqual(gcd(point[0], *point[1]), 1)
        return point

    def test_any_point_of_the_lot(self):
        random = seeded("any point")
        for turn in range(200):
            lot = drawn_lot(random, turn % 5, 9)
            with self.subTest(lot=lot):
                self.assert_point(lot)

    def test_lots_of_one_point(self):
        self.assertEqual(point_of(SPOT), (1, (1, 3)))
        self.assertEqual(point_of(NO_CLOCKS), (1, ()))

    def test_lots_without_points_of_whole_numbers(self):
        self.assertEqual(self.assert_point(THIN), (2, (1,)))

    def test_digits(self):
        for rules in (CROWDED, CROWDED[::-1], CROWDED[:-1], CROWDED[:-3]):
            point = self.assert_point(lot_of_long_rules(4, rules))
            for number in (point[0], *point[1]):
                self.assertLess(number, 10 ** 30)
        widest = lot_of_long_rules(
            4, ((1, 0, (10 ** 20 - 1, 0)), (0, 1, (-10 ** 20 + 2, 0)), (2, 1, (0, 0)), (1, 2, (1, 0)), (3, 2, (0, 0)))
            + ((1, 3, (1, 0)), (4, 2, (0, 0)), (3, 4, (0, 0)))
        )
        point = self.assert_point(widest)
        for number in (point[0], *point[1]):
            self.assertLess(number, 10 ** 30)

    def test_sixty_digits(self):
        self.assert_point((((0, 1), (-GREATEST, 0)), (None, (0, 1))))
        self.assert_point((((0, 1), (1 - GREATEST, 0)), ((GREATEST, 0), (0, 1))))

    def test_wrong_lots(self):
        for value in NOT_LOTS:
            self.assert_refused(InvalidLot, point_of, value)


class IsLotWithinTest(Calls, unittest.TestCase):
    def test_just_if_no_point_lies_outside(self):
        random = seeded("within")
        found = {True: 0, False: 0}
        for turn in range(300):
            clocks = turn % 5
            lot, other = drawn_lot(random, clocks, 5), drawn_lot(random, clocks, 2)
            within = is_lot_within(lot, other)
            found[within] += 1
            with self.subTest(lot=lot, other=other):
                if within:
                    for point in looked_at(random, clocks, (lot, other)):
                        self.assertTrue(is_in(other, point) or not is_in(lot, point))
                else:
                    self.assertTrue(self.is_some_point_outside(clocks, lot, other))
        self.assertGreater(min(found.values()), 30)

    def is_some_point_outside(self, clocks, lot, other):
        for one, row in enumerate(other):
            for to, bound in enumerate(row):
                if one != to and bound is not None:
                    opposite = (to, one, (-bound[0], 1 - bound[1]))
                    kind, rest = lot_or_ring(clocks, rules_of(lot) + (opposite,))
                    if kind == "lot":
                        return is_in(lot, point_of(rest)) and not is_in(other, point_of(rest))
        return False

    def test_ends(self):
        closed = lot_or_ring(1, ((1, 0, (3, 1)),))[1]
        below = lot_or_ring(1, ((1, 0, (3, 0)),))[1]
        self.assertIs(is_lot_within(below, closed), True)
        self.assertIs(is_lot_within(closed, below), False)
        self.assertIs(is_lot_within(closed, closed), True)
        self.assertIs(is_lot_within(closed, everything(1)), True)
        self.assertIs(is_lot_within(everything(1), closed), False)
        self.assertIs(is_lot_within(NO_CLOCKS, NO_CLOCKS), True)

    def test_wrong_values(self):
        for value in NOT_LOTS:
            self.assert_refused(InvalidLot, is_lot_within, value, everything(1))
            self.assert_refused(InvalidLot, is_lot_within, everything(1), value)

    def test_unlike_numbers_of_clocks(self):
        for clocks in (0, 1, 3, 4):
            self.assert_refused(InvalidOperation, is_lot_within, everything(2), everything(clocks))

    def test_the_first_wrong_value_is_told(self):
        self.assert_refused(InvalidLot, is_lot_within, everything(2), NO_CLOCKS + NO_CLOCKS)


class RulesOfTest(Calls, unittest.TestCase):
    def test_only_the_points_of_the_lot_keep_them(self):
        random = seeded("rules of")
        for turn in range(100):
            clocks = turn % 5
            lot = drawn_lot(random, clocks, 6)
            rules = rules_of(lot)
            with self.subTest(lot=lot):
                self.assertEqual(list(rules), sorted(set(rules)))
                self.assertEqual(
                    list(rules),
                    [
                        (at, to, lot[at][to])
                        for at in range(clocks + 1) for to in range(clocks + 1)
                        if at != to and lot[at][to] is not None
                    ],
                )
                self.assertEqual(lot_or_ring(clocks, rules), ("lot", lot))
                for point in looked_at(random, clocks, (lot,)):
                    self.assertIs(keeps_all(point, rules), is_in(lot, point))

    def test_rules(self):
        self.assertEqual(rules_of(NO_CLOCKS), ())
        self.assertEqual(rules_of(everything(2)), ((0, 1, (0, 1)), (0, 2, (0, 1))))
        self.assertEqual(rules_of(THIN), ((0, 1, (0, 0)), (1, 0, (1, 0))))

    def test_numbers_beyond_those_of_rules(self):
        self.assertEqual(
            rules_of((((0, 1), (-10 ** 9 - 1, 1)), ((GREATEST, 0), (0, 1)))),
            ((0, 1, (-10 ** 9 - 1, 1)), (1, 0, (GREATEST, 0))),
        )

    def test_wrong_lots(self):
        for value in NOT_LOTS:
            self.assert_refused(InvalidLot, rules_of, value)


class BoundsAreComeToTest(unittest.TestCase):
    """[2.3]: each bound of a lot is come to, or come near to, so lots with the same points are equal."""

    def test_each_bound_is_needed_as_it_is(self):
        random = seeded("come to")
        for turn in range(60):
            clocks = 1 + turn % 4
            lot = drawn_lot(random, clocks, 6)
            for at, to, (number, end) in rules_of(lot):
                # Some point of the lot does not keep the next tighter bound, (k, 0) for (k, 1), (k - 1, 1) for (k, 0).
                tighter = (number, 0) if end == 1 else (number - 1, 1)
                opposite = (to, at, (-tighter[0], 1 - tighter[1]))
                with self.subTest(lot=lot, at=at, to=to):
                    kind, rest = lot_or_ring(clocks, rules_of(lot) + (opposite,))
                    self.assertEqual(kind, "lot")
                    self.assertTrue(is_in(lot, point_of(rest)))


if __name__ == "__main__":
    unittest.main()
