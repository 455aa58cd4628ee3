"""What comes of bounds, fractions and points whose integers have any length.

Nothing is checked here: numbers grow while they are worked with, beyond those
that a caller may pass.
"""

from math import gcd


def bounds_added(one, other):
    """The tightest bound of all sums; None is no bound."""
    if one is None or other is None:
        return None
    return (one[0] + other[0], one[1] * other[1])


def is_bound_less(one, other):
    """Whether the first bound is the tighter one."""
    if one is None:
        return False
    return other is None or one < other


def bound_turned(bound):
    """The bound that just the negatives of the numbers beyond the bound are within."""
    return (-bound[0], 1 - bound[1])


def is_within(bound, fraction):
    """Whether the fraction is within the bound."""
    if bound is None:
        return True
    top, bottom = fraction
    most = bound[0] * bottom
    return top < most or (top == most and bound[1] == 1)


def lowest_terms(top, bottom):
    """The fraction in lowest terms."""
    divisor = gcd(top, bottom)
    return (top // divisor, bottom // divisor)


def fractions_added(one, other):
    """The sum, in lowest terms."""
    return lowest_terms(one[0] * other[1] + other[0] * one[1], one[1] * other[1])


def order_of(one, other):
    """-1, 0 or 1 if the first fraction is below the second one, alike, or above it."""
    left, right = one[0] * other[1], other[0] * one[1]
    if left < right:
        return -1
    return 1 if left > right else 0


def lowest_point(bottom, values):
    """The point in lowest terms."""
    divisor = bottom
    for value in values:
        divisor = gcd(divisor, value)
    return (bottom // divisor, tuple([value // divisor for value in values]))


def point_later(point, pause):
    """The point behind a pause, in lowest terms."""
    bottom, values = point
    grown = pause[0] * bottom
    return lowest_point(bottom * pause[1], [value * pause[1] + grown for value in values])


def point_back(point, clocks):
    """The point with the clocks at nought, in lowest terms."""
    bottom, values = point
    return lowest_point(bottom, [0 if at in clocks else value for at, value in enumerate(values, start=1)])


def point_shown(point, one, other):
    """What the one clock shows less what the other shows, in lowest terms; 0 stands for nought."""
    bottom, values = point
    all_values = (0, *values)
    return lowest_terms(all_values[one] - all_values[other], bottom)
