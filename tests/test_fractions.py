"""[0.8] and stage 1: fractions and pauses, lowest terms, sums and comparisons."""

import unittest
from fractions import Fraction
from itertools import product

from pauseplay.base.points import compare, fraction_sum, is_fraction, is_pause, lowest
from pauseplay.errors import InvalidPoint
from tests.kinds import GREATEST, NOT_FRACTIONS, NOT_PAUSES, TOO_GREAT, Calls

FRACTIONS = tuple((top, bottom) for top in range(-6, 7) for bottom in range(1, 7))


def pair_of(number):
    """The pair of a fraction of Python's, which is in lowest terms."""
    return (number.numerator, number.denominator)


class KindsTest(unittest.TestCase):
    def test_fractions(self):
        for value in FRACTIONS + ((GREATEST, GREATEST), (-GREATEST, 1), (0, GREATEST)):
            with self.subTest(value=value):
                self.assertIs(is_fraction(value), True)

    def test_pauses(self):
        for value in FRACTIONS:
            with self.subTest(value=value):
                self.assertIs(is_pause(value), value[0] >= 0)
        self.assertIs(is_pause((GREATEST, GREATEST)), True)

    def test_other_values(self):
        for value in NOT_FRACTIONS:
            with self.subTest():
                self.assertIs(is_fraction(value), False)
        for value in NOT_PAUSES:
            with self.subTest():
                self.assertIs(is_pause(value), False)


class LowestTest(Calls, unittest.TestCase):
    def test_lowest(self):
        for top, bottom in FRACTIONS:
            with self.subTest(top=top, bottom=bottom):
                self.assertEqual(lowest((top, bottom)), pair_of(Fraction(top, bottom)))

    def test_nought(self):
        self.assertEqual(lowest((0, 7)), (0, 1))

    def test_sixty_digits(self):
        self.assertEqual(lowest((GREATEST, GREATEST)), (1, 1))
        self.assertEqual(lowest((-GREATEST, 9)), (-GREATEST // 9, 1))
        self.assertEqual(lowest((GREATEST - 1, GREATEST)), (GREATEST - 1, GREATEST))

    def test_wrong_values(self):
        for value in NOT_FRACTIONS:
            self.assert_refused(InvalidPoint, lowest, value)


class FractionSumTest(Calls, unittest.TestCase):
    def test_sums(self):
        for one, other in product(FRACTIONS, FRACTIONS):
            self.assertEqual(fraction_sum(one, other), pair_of(Fraction(*one) + Fraction(*other)))

    def test_sums_can_be_longer_than_what_is_passed(self):
        self.assertEqual(fraction_sum((GREATEST, 1), (1, 1)), (TOO_GREAT, 1))
        self.assertEqual(
            fraction_sum((1, GREATEST), (1, GREATEST - 1)),
            pair_of(Fraction(1, GREATEST) + Fraction(1, GREATEST - 1)),
        )

    def test_wrong_values(self):
        for value in NOT_FRACTIONS:
            self.assert_refused(InvalidPoint, fraction_sum, value, (1, 1))
            self.assert_refused(InvalidPoint, fraction_sum, (1, 1), value)


class CompareTest(Calls, unittest.TestCase):
    def test_comparisons(self):
        for one, other in product(FRACTIONS, FRACTIONS):
            left, right = Fraction(*one), Fraction(*other)
            expected = -1 if left < right else 0 if left == right else 1
            found = compare(one, other)
            self.assertEqual(found, expected)
            self.assertIs(type(found), int)

    def test_sixty_digits(self):
        self.assertEqual(compare((GREATEST - 1, GREATEST), (GREATEST - 2, GREATEST - 1)), 1)
        self.assertEqual(compare((GREATEST - 2, GREATEST - 1), (GREATEST - 1, GREATEST)), -1)
        self.assertEqual(compare((GREATEST, GREATEST), (1, 1)), 0)

    def test_wrong_values(self):
        for value in NOT_FRACTIONS:
            self.assert_refused(InvalidPoint, compare, value, (1, 1))
            self.assert_refused(InvalidPoint, compare, (1, 1), value)


if __name__ == "__main__":
    unittest.main()
