"""[0.8], [1.3] and [1.5]: points, the same ones, later ones, clocks set back, what clocks show."""

import unittest
from fractions import Fraction
from itertools import combinations, product
from math import gcd

from pauseplay.base import points
from pauseplay.base.points import are_same, is_point, later, set_back, shown
from pauseplay.errors import InvalidOperation, InvalidPoint
from tests.kinds import GREATEST, NOT_CLOCK_NUMBERS, NOT_INTEGERS, NOT_PAUSES, NOT_POINTS, TOO_GREAT, Calls

POINTS = (
    (1, ()), (6, ()), (1, (0,)), (4, (2,)), (2, (1, 4)), (6, (3, 12)), (9, (0, 0)), (4, (2, 6, 8)),
    (5, (1, 2, 3, 4)), (12, (4, 8, 0, 24)), (1, (7, 7, 7, 7)),
)
PAUSES = ((0, 1), (0, 5), (1, 3), (2, 4), (3, 1), (7, 6))


def all_shown(point):
    """What the clocks show, as fractions of Python's."""
    return [Fraction(value, point[0]) for value in point[1]]


def in_lowest_terms(point):
    """Whether no integer above 1 divides q and all values."""
    divisor = point[0]
    for value in point[1]:
        divisor = gcd(divisor, value)
    return divisor == 1


class IsPointTest(Calls, unittest.TestCase):
    def test_most_clocks(self):
        self.assertEqual(points.MOST_CLOCKS, 4)

    def test_points_of_so_many_clocks(self):
        for point in POINTS:
            for clocks in range(5):
                with self.subTest(point=point, clocks=clocks):
                    self.assertIs(is_point(clocks, point), len(point[1]) == clocks)

    def test_sixty_digits(self):
        self.assertIs(is_point(2, (GREATEST, (GREATEST, 0))), True)
        self.assertIs(is_point(1, (TOO_GREAT, (1,))), False)
        self.assertIs(is_point(1, (1, (TOO_GREAT,))), False)

    def test_other_values(self):
        for value in NOT_POINTS:
            for clocks in range(5):
                with self.subTest(clocks=clocks):
                    self.assertIs(is_point(clocks, value), False)

    def test_wrong_numbers_of_clocks(self):
        for value in NOT_CLOCK_NUMBERS:
            self.assert_number_refused(value, is_point, value, (1, (0,)))
            self.assert_number_refused(value, is_point, value, None)


class AreSameTest(Calls, unittest.TestCase):
    def test_points_are_the_same_if_their_clocks_show_the_same(self):
        for one, other in product(POINTS, POINTS):
            if len(one[1]) == len(other[1]):
                with self.subTest(one=one, other=other):
                    self.assertIs(are_same(one, other), all_shown(one) == all_shown(other))

    def test_other_terms(self):
        self.assertIs(are_same((2, (1, 4)), (6, (3, 12))), True)
        self.assertIs(are_same((4, (2, 8)), (6, (3, 12))), True)
        self.assertIs(are_same((2, (1, 4)), (2, (4, 1))), False)
        self.assertIs(are_same((1, (0, 0)), (7, (0, 0))), True)
        self.assertIs(are_same((1, (1,)), (2, (1,))), False)
        self.assertIs(are_same((GREATEST, (GREATEST,)), (1, (1,))), True)
        self.assertIs(are_same((GREATEST, (GREATEST - 1,)), (1, (1,))), False)

    def test_points_without_clocks(self):
        self.assertIs(are_same((1, ()), (9, ())), True)

    def test_wrong_values(self):
        for value in NOT_POINTS:
            self.assert_refused(InvalidPoint, are_same, value, (1, (0,)))
            self.assert_refused(InvalidPoint, are_same, (1, (0,)), value)

    def test_unlike_numbers_of_clocks(self):
        self.assert_refused(InvalidOperation, are_same, (1, (0,)), (1, (0, 0)))
        self.assert_refused(InvalidOperation, are_same, (1, (0, 0, 0, 0)), (1, ()))

    def test_wrong_values_are_told_ahead_of_unlike_numbers(self):
        self.assert_refused(InvalidPoint, are_same, (1, (0,)), (0, (0, 0)))
        self.assert_refused(InvalidPoint, are_same, (0, (0, 0)), (1, (0,)))


class LaterTest(Calls, unittest.TestCase):
    def test_all_clocks_show_so_much_more(self):
        for point, pause in product(POINTS, PAUSES):
            found = later(point, pause)
            with self.subTest(point=point, pause=pause):
                self.assertEqual(all_shown(found), [value + Fraction(*pause) for value in all_shown(point)])
                self.assertIs(is_point(len(point[1]), found), True)
                self.assertTrue(in_lowest_terms(found))

    def test_points_behind_unlike_pauses_can_be_alike(self):
        self.assertEqual(later((3, ()), (1, 2)), (1, ()))
        self.assertEqual(later((3, ()), (2, 1)), (1, ()))

    def test_sixty_digits(self):
        self.assertEqual(later((1, (GREATEST,)), (GREATEST, 1)), (1, (2 * GREATEST,)))
        self.assertEqual(
            later((GREATEST, (1,)), (1, GREATEST - 1)), (GREATEST * (GREATEST - 1), (2 * GREATEST - 1,))
        )

    def test_wrong_values(self):
        for value in NOT_POINTS:
            self.assert_refused(InvalidPoint, later, value, (1, 1))
        for value in NOT_PAUSES:
            self.assert_refused(InvalidPoint, later, (1, (0,)), value)


class SetBackTest(Calls, unittest.TestCase):
    def test_clocks_set_back_show_nought_the_others_what_they_did(self):
        for point in POINTS:
            many = len(point[1])
            for size in range(many + 1):
                for clocks in combinations(range(1, many + 1), size):
                    found = set_back(point, clocks)
                    expected = [
                        0 if clock in clocks else value for clock, value in enumerate(all_shown(point), start=1)
                    ]
                    with self.subTest(point=point, clocks=clocks):
                        self.assertEqual(all_shown(found), expected)
                        self.assertIs(is_point(many, found), True)
                        self.assertTrue(in_lowest_terms(found))

    def test_no_clock_is_set_back(self):
        self.assertEqual(set_back((4, (2, 6)), ()), (2, (1, 3)))
        self.assertEqual(set_back((4, ()), ()), (1, ()))

    def test_all_clocks_are_set_back(self):
        self.assertEqual(set_back((4, (1, 6)), (1, 2)), (1, (0, 0)))

    def test_wrong_points(self):
        for value in NOT_POINTS:
            self.assert_refused(InvalidPoint, set_back, value, (1,))

    def test_wrong_clocks(self):
        for clocks in (
            (0,), (3,), (-1,), (1, 1), (2, 1), (1, 2, 3), (1, 3), [], [1], [1, 2], 1, 0, None, True, "", "1", {}, {1: 1},
            ((1,),), ([1],), (1, "2"), ("1", 2), (1, None),
        ):
            self.assert_refused(InvalidOperation, set_back, (2, (1, 4)), clocks)
        for value in NOT_INTEGERS:
            self.assert_refused(InvalidOperation, set_back, (2, (1, 4)), (value,))
            self.assert_refused(InvalidOperation, set_back, (2, (1, 4)), (1, value))
        self.assert_refused(InvalidOperation, set_back, (1, ()), (1,))

    def test_the_first_wrong_value_is_told(self):
        self.assert_refused(InvalidPoint, set_back, (0, (1, 4)), (2, 1))


class ShownTest(Calls, unittest.TestCase):
    def test_what_the_one_clock_shows_less_what_the_other_shows(self):
        for point in POINTS:
            values = [Fraction(0)] + all_shown(point)
            for one, other in product(range(len(values)), range(len(values))):
                expected = values[one] - values[other]
                with self.subTest(point=point, one=one, other=other):
                    self.assertEqual(shown(point, one, other), (expected.numerator, expected.denominator))

    def test_nought(self):
        self.assertEqual(shown((7, (3,)), 0, 0), (0, 1))
        self.assertEqual(shown((7, ()), 0, 0), (0, 1))
        self.assertEqual(shown((7, (3,)), 1, 1), (0, 1))

    def test_sixty_digits(self):
        self.assertEqual(shown((1, (0, GREATEST)), 1, 2), (-GREATEST, 1))
        self.assertEqual(shown((GREATEST, (0, GREATEST)), 2, 1), (1, 1))

    def test_wrong_points(self):
        for value in NOT_POINTS:
            self.assert_refused(InvalidPoint, shown, value, 0, 0)

    def test_wrong_clocks(self):
        for value in (-1, 3, 4, GREATEST) + NOT_INTEGERS:
            self.assert_number_refused(value, shown, (2, (1, 4)), value, 1)
            self.assert_number_refused(value, shown, (2, (1, 4)), 1, value)
        self.assert_number_refused(1, shown, (2, ()), 1, 0)

    def test_the_first_wrong_value_is_told(self):
        self.assert_refused(InvalidPoint, shown, (0, (1, 4)), 3, 4)
        self.assert_number_refused(3, shown, (2, (1, 4)), 3, 4)
        self.assert_number_refused(True, shown, (2, (1, 4)), True, False)


if __name__ == "__main__":
    unittest.main()
