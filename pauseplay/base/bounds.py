"""Bounds: (k, 1) lets what is at most k, (k, 0) what is below k, None lets everything."""

from pauseplay.base.exact import bound_turned, bounds_added, is_bound_less, is_within
from pauseplay.base.integers import is_mark, is_pair, is_whole
from pauseplay.base.points import check_fraction
from pauseplay.errors import InvalidBound, InvalidOperation


def is_bound(value):
    """Whether the value is a bound."""
    return value is None or (is_pair(value) and is_whole(value[0]) and is_mark(value[1]))


def check_bound(value):
    """Raise InvalidBound unless the value is a bound."""
    if not is_bound(value):
        raise InvalidBound("a bound is a pair (k, e) of an integer and of 1 or 0, or None")


def bound_sum(one, other):
    """The tightest bound of the sums of a number within the one and of one within the other."""
    check_bound(one)
    check_bound(other)
    return bounds_added(one, other)


def is_tighter(one, other):
    """Whether the first bound is the tighter one."""
    check_bound(one)
    check_bound(other)
    return is_bound_less(one, other)


def turned(bound):
    """The bound that a number's negative is within just if the number is not within this one."""
    check_bound(bound)
    if bound is None:
        raise InvalidOperation("None has no turned bound")
    return bound_turned(bound)


def does_keep(bound, fraction):
    """Whether the fraction is within the bound."""
    check_bound(bound)
    check_fraction(fraction)
    return is_within(bound, fraction)
