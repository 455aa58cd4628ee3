"""Fractions, pauses and points of clocks."""

from pauseplay.base.exact import fractions_added, lowest_point, lowest_terms, order_of
from pauseplay.base.exact import point_back, point_later, point_shown
from pauseplay.base.integers import is_ascending, is_mark, is_pair, is_whole, is_whole_between
from pauseplay.base.stretches import is_stretch_empty, simplest_in
from pauseplay.errors import InvalidNumber, InvalidOperation, InvalidPoint

MOST_CLOCKS = 4


def is_fraction(value):
    """Whether the value is a pair (p, q) of integers, q from 1 on."""
    return is_pair(value) and is_whole(value[0]) and is_whole(value[1]) and value[1] >= 1


def is_pause(value):
    """Whether the value is a fraction from nought on."""
    return is_fraction(value) and value[0] >= 0


def check_fraction(value):
    """Raise InvalidPoint unless the value is a fraction."""
    if not is_fraction(value):
        raise InvalidPoint("a fraction is a pair (p, q) of integers, q from 1 on")


def check_pause(value):
    """Raise InvalidPoint unless the value is a pause."""
    if not is_pause(value):
        raise InvalidPoint("a pause is a pair (p, q) of integers, p from 0 on, q from 1 on")


def lowest(fraction):
    """The fraction in lowest terms."""
    check_fraction(fraction)
    return lowest_terms(fraction[0], fraction[1])


def fraction_sum(one, other):
    """The sum of two fractions, in lowest terms."""
    check_fraction(one)
    check_fraction(other)
    return fractions_added(one, other)


def compare(one, other):
    """-1, 0 or 1 if the first fraction is below the second one, alike, or above it."""
    check_fraction(one)
    check_fraction(other)
    return order_of(one, other)


def check_mark(value):
    """Raise InvalidNumber unless the value is 0 or 1."""
    if not is_mark(value):
        raise InvalidNumber(value)


def simplest(least, least_end, greatest, greatest_end):
    """The pause with the least q, and of these the least one, in the stretch between two ends."""
    check_pause(least)
    check_mark(least_end)
    if greatest is not None:
        check_pause(greatest)
    check_mark(greatest_end)
    if is_stretch_empty(least, least_end, greatest, greatest_end):
        raise InvalidOperation("no pause is in the stretch")
    return simplest_in(least, least_end, greatest, greatest_end)


def check_clocks(clocks):
    """Raise InvalidNumber unless there can be so many clocks."""
    if not is_whole_between(clocks, 0, MOST_CLOCKS):
        raise InvalidNumber(clocks)


def is_some_point(value):
    """Whether the value is a point of some number of clocks."""
    if not is_pair(value):
        return False
    bottom, values = value
    if not (is_whole(bottom) and bottom >= 1 and isinstance(values, tuple) and len(values) <= MOST_CLOCKS):
        return False
    return all([is_whole(item) and item >= 0 for item in values])


def is_point(clocks, value):
    """Whether the value is a point of so many clocks."""
    check_clocks(clocks)
    return is_some_point(value) and len(value[1]) == clocks


def check_point(value):
    """Raise InvalidPoint unless the value is a point of some number of clocks."""
    if not is_some_point(value):
        raise InvalidPoint("a point is a pair (q, values), q from 1 on, with at most 4 integers from 0 on")


def are_same(one, other):
    """Whether the clocks of two points show the same."""
    check_point(one)
    check_point(other)
    if len(one[1]) != len(other[1]):
        raise InvalidOperation("the points have unlike numbers of clocks")
    return lowest_point(one[0], one[1]) == lowest_point(other[0], other[1])


def later(point, pause):
    """The point behind a pause, in lowest terms."""
    check_point(point)
    check_pause(pause)
    return point_later(point, pause)


def set_back(point, clocks):
    """The point with some clocks set back to nought, in lowest terms."""
    check_point(point)
    if not is_ascending(clocks, 1, len(point[1])):
        raise InvalidOperation("the clocks to be set back are not an ascending tuple of clocks of the point")
    return point_back(point, clocks)


def check_shown(point, clock):
    """Raise InvalidNumber unless the number is that of a clock of the point, or 0 for nought."""
    if not is_whole_between(clock, 0, len(point[1])):
        raise InvalidNumber(clock)


def shown(point, one, other):
    """What the one clock shows less what the other shows, in lowest terms; 0 stands for nought."""
    check_point(point)
    check_shown(point, one)
    check_shown(point, other)
    return point_shown(point, one, other)
