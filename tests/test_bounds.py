"""[1.1], [1.2] and [1.5]: bounds, the tighter one, sums, turned bounds, what is within."""

import unittest
from fractions import Fraction
from itertools import product

from pauseplay.base.bounds import bound_sum, does_keep, is_bound, is_tighter, turned
from pauseplay.errors import InvalidBound, InvalidOperation, InvalidPoint
from tests.kinds import GREATEST, NOT_BOUNDS, NOT_FRACTIONS, TOO_GREAT, Calls

PAIRS = tuple((number, end) for number in range(-3, 4) for end in (0, 1))
BOUNDS = PAIRS + (None,)
NUMBERS = tuple(Fraction(number, 4) for number in range(-20, 21))


def kept(bound):
    """The numbers of the grid that are within the bound."""
    return {number for number in NUMBERS if does_keep(bound, (number.numerator, number.denominator))}


class IsBoundTest(unittest.TestCase):
    def test_bounds(self):
        for bound in BOUNDS + ((GREATEST, 1), (-GREATEST, 0)):
            with self.subTest(bound=bound):
                self.assertIs(is_bound(bound), True)

    def test_other_values(self):
        for value in NOT_BOUNDS:
            with self.subTest():
                self.assertIs(is_bound(value), False)


class DoesKeepTest(Calls, unittest.TestCase):
    def test_a_number_is_within_up_to_the_bound(self):
        for number, end in PAIRS:
            for fraction in NUMBERS:
                found = does_keep((number, end), (fraction.numerator, fraction.denominator))
                with self.subTest(bound=(number, end), fraction=fraction):
                    self.assertIs(found, fraction <= number if end == 1 else fraction < number)

    def test_each_number_is_within_none(self):
        for fraction in ((0, 1), (-7, 3), (GREATEST, 1), (-GREATEST, 1)):
            self.assertIs(does_keep(None, fraction), True)

    def test_fractions_that_are_not_in_lowest_terms(self):
        self.assertIs(does_keep((3, 1), (6, 2)), True)
        self.assertIs(does_keep((3, 0), (6, 2)), False)
        self.assertIs(does_keep((-3, 1), (-6, 2)), True)
        self.assertIs(does_keep((-3, 0), (-6, 2)), False)

    def test_sixty_digits(self):
        self.assertIs(does_keep((1, 0), (GREATEST - 1, GREATEST)), True)
        self.assertIs(does_keep((1, 0), (GREATEST, GREATEST)), False)
        self.assertIs(does_keep((GREATEST, 1), (GREATEST, 1)), True)
        self.assertIs(does_keep((GREATEST - 1, 1), (GREATEST, 1)), False)
        self.assertIs(does_keep((0, 0), (-1, GREATEST)), True)
        self.assertIs(does_keep((0, 1), (1, GREATEST)), False)

    def test_wrong_values(self):
        for value in NOT_BOUNDS:
            self.assert_refused(InvalidBound, does_keep, value, (1, 1))
        for value in NOT_FRACTIONS:
            self.assert_refused(InvalidPoint, does_keep, (1, 1), value)
            self.assert_refused(InvalidPoint, does_keep, None, value)

    def test_the_first_wrong_value_is_told(self):
        self.assert_refused(InvalidBound, does_keep, (1, True), (1, 0))
        self.assert_refused(InvalidBound, does_keep, [1, 1], [1, 1])


class IsTighterTest(Calls, unittest.TestCase):
    def test_the_lesser_pair_is_tighter_and_lets_fewer_numbers(self):
        for one, other in product(BOUNDS, BOUNDS):
            with self.subTest(one=one, other=other):
                self.assertIs(is_tighter(one, other), kept(one) < kept(other))

    def test_equal_bounds(self):
        for bound in BOUNDS:
            self.assertIs(is_tighter(bound, bound), False)

    def test_none(self):
        self.assertIs(is_tighter((GREATEST, 1), None), True)
        self.assertIs(is_tighter(None, (GREATEST, 1)), False)
        self.assertIs(is_tighter(None, None), False)

    def test_wrong_values(self):
        for value in NOT_BOUNDS:
            self.assert_refused(InvalidBound, is_tighter, value, (1, 1))
            self.assert_refused(InvalidBound, is_tighter, (1, 1), value)
            self.assert_refused(InvalidBound, is_tighter, value, None)
            self.assert_refused(InvalidBound, is_tighter, None, value)


class BoundSumTest(Calls, unittest.TestCase):
    def test_numbers_are_added_and_ends_multiplied(self):
        self.assertEqual(bound_sum((1, 1), (2, 1)), (3, 1))
        self.assertEqual(bound_sum((1, 1), (2, 0)), (3, 0))
        self.assertEqual(bound_sum((1, 0), (2, 1)), (3, 0))
        self.assertEqual(bound_sum((1, 0), (2, 0)), (3, 0))
        self.assertEqual(bound_sum((-5, 1), (2, 1)), (-3, 1))

    def test_none(self):
        for bound in BOUNDS:
            self.assertIsNone(bound_sum(None, bound))
            self.assertIsNone(bound_sum(bound, None))

    def test_it_is_the_tightest_bound_that_lets_all_sums(self):
        grid = [Fraction(number, 4) for number in range(-40, 41)]
        for one, other in product(PAIRS[::3], PAIRS[::2]):
            sums = {first + last for first in kept(one) for last in kept(other)}
            found = bound_sum(one, other)
            let = {number for number in grid if does_keep(found, (number.numerator, number.denominator))}
            with self.subTest(one=one, other=other):
                self.assertLessEqual(sums, let)
                # A bound below a whole number is come near to, by what is below it on the grid.
                self.assertGreaterEqual(max(sums), max(let) - Fraction(1, 4))
                self.assertEqual(Fraction(found[0]) in sums, found[1] == 1)

    def test_sums_can_be_longer_than_what_is_passed(self):
        self.assertEqual(bound_sum((GREATEST, 1), (1, 1)), (TOO_GREAT, 1))
        self.assertIs(is_bound(bound_sum((GREATEST, 1), (1, 1))), False)

    def test_wrong_values(self):
        for value in NOT_BOUNDS:
            self.assert_refused(InvalidBound, bound_sum, value, (1, 1))
            self.assert_refused(InvalidBound, bound_sum, (1, 1), value)
            self.assert_refused(InvalidBound, bound_sum, value, None)
            self.assert_refused(InvalidBound, bound_sum, None, value)


class TurnedTest(Calls, unittest.TestCase):
    def test_turned(self):
        self.assertEqual(turned((3, 1)), (-3, 0))
        self.assertEqual(turned((3, 0)), (-3, 1))
        self.assertEqual(turned((-3, 1)), (3, 0))
        self.assertEqual(turned((0, 0)), (0, 1))
        self.assertEqual(turned((GREATEST, 1)), (-GREATEST, 0))

    def test_a_number_is_within_just_if_its_negative_is_not_within_the_turned_bound(self):
        for bound in PAIRS:
            for number in NUMBERS:
                within = does_keep(bound, (number.numerator, number.denominator))
                with self.subTest(bound=bound, number=number):
                    self.assertIs(does_keep(turned(bound), (-number.numerator, number.denominator)), not within)

    def test_turned_twice_is_the_bound(self):
        for bound in PAIRS:
            self.assertEqual(turned(turned(bound)), bound)

    def test_a_bound_and_its_turned_one_can_let_one_number_both(self):
        self.assertIs(does_keep((3, 1), (-4, 1)) and does_keep(turned((3, 1)), (-4, 1)), True)

    def test_none_is_a_bound_but_has_no_turned_one(self):
        self.assert_refused(InvalidOperation, turned, None)

    def test_wrong_values(self):
        for value in NOT_BOUNDS:
            self.assert_refused(InvalidBound, turned, value)


if __name__ == "__main__":
    unittest.main()
