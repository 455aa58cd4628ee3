"""[1.4] and [1.5]: stretches of pauses, and the simplest pause of each."""

import unittest
from fractions import Fraction
from itertools import product
from random import Random

from pauseplay.base.points import simplest
from pauseplay.errors import InvalidNumber, InvalidOperation, InvalidPoint
from tests.kinds import GREATEST, NOT_MARKS, NOT_PAUSES, TOO_GREAT, Calls

MARKS = (0, 1)


def has(stretch, number):
    """Whether the number is in the stretch."""
    least, least_end, greatest, greatest_end = stretch
    low = Fraction(*least)
    if number < low or (number == low and least_end == 0):
        return False
    if greatest is None:
        return True
    high = Fraction(*greatest)
    return number < high or (number == high and greatest_end == 1)


def is_empty(stretch):
    """Whether no pause is in the stretch."""
    least, least_end, greatest, greatest_end = stretch
    if greatest is None:
        return False
    low, high = Fraction(*least), Fraction(*greatest)
    return low > high or (low == high and (least_end, greatest_end) != (1, 1))


def searched(stretch):
    """The simplest pause by looking at one bottom after the other, for each from the least top on."""
    bottom = 0
    while True:
        bottom += 1
        top = stretch[0][0] * bottom // stretch[0][1]
        while not has(stretch, Fraction(top, bottom)):
            top += 1
            if stretch[2] is not None and Fraction(top, bottom) > Fraction(*stretch[2]):
                break
        else:
            return (top, bottom)


def is_simplest(stretch, pause):
    """Whether the pause is the simplest one, by its two parents in the tree of all fractions.

    Each fraction with a lesser bottom is at most the one parent or at least the
    other one. So if both are outside of the stretch, all of them are.
    """
    top, bottom = pause
    if not has(stretch, Fraction(top, bottom)) or Fraction(top, bottom).denominator != bottom:
        return False
    if bottom == 1:
        return top == 0 or not has(stretch, Fraction(top - 1))
    lower_bottom = pow(top, -1, bottom)
    lower_top = (top * lower_bottom - 1) // bottom
    lower, upper = Fraction(lower_top, lower_bottom), Fraction(top - lower_top, bottom - lower_bottom)
    return not has(stretch, lower) and not has(stretch, upper)


class SimplestTest(unittest.TestCase):
    def test_against_a_plain_search(self):
        ends = [(top, bottom) for bottom in (1, 2, 3, 4, 5, 7, 8) for top in range(0, 2 * bottom + 2)]
        for least, greatest in product(ends, ends):
            for stretch in product((least,), MARKS, (greatest,), MARKS):
                if is_empty(stretch):
                    continue
                self.assertEqual(simplest(*stretch), searched(stretch), stretch)

    def test_narrow_stretches_against_a_plain_search(self):
        for bottom in range(2, 60):
            for top in range(0, 2 * bottom):
                for marks in product(MARKS, MARKS):
                    stretch = ((top, bottom), marks[0], (top + 1, bottom), marks[1])
                    self.assertEqual(simplest(*stretch), searched(stretch), stretch)

    def test_without_an_end(self):
        for least, least_end in product([(top, 6) for top in range(25)] + [(5, 1)], MARKS):
            stretch = (least, least_end, None, 0)
            self.assertEqual(simplest(*stretch), searched(stretch), stretch)
        self.assertEqual(simplest((0, 1), 1, None, 0), (0, 1))
        self.assertEqual(simplest((0, 1), 0, None, 0), (1, 1))
        self.assertEqual(simplest((GREATEST, 1), 0, None, 0), (TOO_GREAT, 1))

    def test_the_mark_of_no_end_means_nothing(self):
        self.assertEqual(simplest((3, 2), 1, None, 1), (2, 1))
        self.assertEqual(simplest((2, 1), 0, None, 1), (3, 1))

    def test_stretches_of_one_pause(self):
        for pause in ((0, 1), (3, 1), (2, 7), (13, 8), (GREATEST, GREATEST - 1)):
            self.assertEqual(simplest(pause, 1, pause, 1), pause)
        self.assertEqual(simplest((4, 14), 1, (6, 21), 1), (2, 7))
        self.assertEqual(simplest((0, 9), 1, (0, 4), 1), (0, 1))

    def test_ends_that_belong_to_it_or_not(self):
        self.assertEqual(simplest((1, 1), 1, (2, 1), 1), (1, 1))
        self.assertEqual(simplest((1, 1), 0, (2, 1), 1), (2, 1))
        self.assertEqual(simplest((1, 1), 0, (2, 1), 0), (3, 2))
        self.assertEqual(simplest((0, 1), 1, (1, 2), 0), (0, 1))
        self.assertEqual(simplest((0, 1), 0, (1, 2), 0), (1, 3))
        self.assertEqual(simplest((0, 1), 0, (1, 2), 1), (1, 2))

    def test_the_simplest_pause_need_not_be_the_least_one(self):
        self.assertEqual(simplest((1, 3), 1, (1, 1), 1), (1, 1))

    def test_of_several_integers_the_least_one(self):
        self.assertEqual(simplest((5, 2), 1, (99, 1), 1), (3, 1))

    def test_ends_that_are_not_in_lowest_terms(self):
        self.assertEqual(simplest((2, 6), 1, (4, 8), 0), (1, 3))
        self.assertEqual(simplest((2, 6), 0, (4, 8), 0), (2, 5))
        self.assertEqual(simplest((4, 2), 0, (6, 2), 1), (3, 1))


class LongNumbersTest(unittest.TestCase):
    def test_bottoms_of_sixty_digits(self):
        bottom = 10 ** 59
        self.assertEqual(simplest((0, 1), 0, (1, bottom), 1), (1, bottom))
        self.assertEqual(simplest((0, 1), 0, (1, bottom), 0), (1, bottom + 1))
        self.assertEqual(simplest((0, 1), 0, (1, GREATEST), 0), (1, TOO_GREAT))
        self.assertEqual(simplest((1, 2), 0, (bottom // 2 + 1, bottom), 1), (bottom // 4 + 1, bottom // 2 + 1))

    def test_neighbours_with_the_longest_way(self):
        first, second = 1, 1
        while first + 2 * second <= GREATEST:
            first, second = second, first + second
        one, other = (first, second), (second, first + second)
        low, high = sorted((one, other), key=lambda pair: Fraction(*pair))
        self.assertEqual(simplest(low, 0, high, 0), (first + second, first + 2 * second))
        self.assertEqual(simplest(low, 1, low, 1), low)
        self.assertEqual(simplest(low, 1, high, 0), low)
        self.assertEqual(simplest(low, 0, high, 1), high)
        self.assertEqual(simplest(low, 1, high, 1), one)

    def test_many_ends_by_the_parents(self):
        source = Random(7)
        for digits in (3, 9, 20, 40, 60):
            for _ in range(200):
                bottom = source.randrange(1, 10 ** digits)
                least = (source.randrange(0, min(3 * bottom, 10 ** digits)), bottom)
                near = Fraction(*least) + Fraction(1, source.randrange(1, 10 ** digits))
                greatest = (near * bottom).__floor__() + source.randrange(0, 2), bottom
                for marks in product(MARKS, MARKS):
                    stretch = (least, marks[0], (min(greatest[0], GREATEST), bottom), marks[1])
                    if is_empty(stretch):
                        continue
                    self.assertTrue(is_simplest(stretch, simplest(*stretch)), stretch)


class WrongStretchesTest(Calls, unittest.TestCase):
    def test_empty_stretches(self):
        for stretch in (
            ((1, 1), 0, (1, 1), 1), ((1, 1), 1, (1, 1), 0), ((1, 1), 0, (1, 1), 0), ((1, 2), 1, (2, 4), 0),
            ((2, 1), 1, (1, 1), 1), ((1, 2), 1, (1, 3), 1), ((1, 1), 1, (0, 1), 1), ((0, 1), 0, (0, 1), 1),
            ((1, GREATEST - 1), 1, (1, GREATEST), 1),
        ):
            self.assert_refused(InvalidOperation, simplest, *stretch)

    def test_wrong_ends(self):
        for value in NOT_PAUSES:
            self.assert_refused(InvalidPoint, simplest, value, 1, (1, 1), 1)
            if value is not None:
                self.assert_refused(InvalidPoint, simplest, (0, 1), 1, value, 1)

    def test_wrong_marks(self):
        for value in NOT_MARKS:
            self.assert_number_refused(value, simplest, (0, 1), value, (1, 1), 1)
            self.assert_number_refused(value, simplest, (0, 1), 1, (1, 1), value)
            self.assert_number_refused(value, simplest, (0, 1), value, None, 0)
            self.assert_number_refused(value, simplest, (0, 1), 1, None, value)

    def test_the_first_wrong_value_is_told(self):
        self.assert_refused(InvalidPoint, simplest, (1, 0), 2, (1, 0), 2)
        self.assert_refused(InvalidNumber, simplest, (1, 1), 2, (1, 0), 3)
        self.assert_number_refused(2, simplest, (1, 1), 2, (1, 0), 3)
        self.assert_refused(InvalidPoint, simplest, (1, 1), 1, (1, 0), 3)

    def test_an_empty_stretch_is_told_behind_all_wrong_values(self):
        self.assert_number_refused(2, simplest, (2, 1), 1, (1, 1), 2)
        self.assert_number_refused(True, simplest, (2, 1), True, (1, 1), 1)


if __name__ == "__main__":
    unittest.main()
