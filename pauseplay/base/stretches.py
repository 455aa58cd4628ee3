"""Stretches of pauses: from a least one to a greatest one, or without an end.

Nothing is checked here: the integers have any length.
"""

from pauseplay.base.exact import lowest_terms, order_of


def is_stretch_empty(least, least_end, greatest, greatest_end):
    """Whether no pause is in the stretch."""
    if greatest is None:
        return False
    order = order_of(least, greatest)
    return order > 0 or (order == 0 and (least_end == 0 or greatest_end == 0))


def first_whole(least, least_end):
    """The least integer of the numbers from the least one on, with it or without it."""
    top, bottom = least
    whole = -(-top // bottom)
    return whole + 1 if whole * bottom == top and least_end == 0 else whole


def is_whole_up_to(whole, greatest, greatest_end):
    """Whether the integer is not beyond the greatest number, with it or without it."""
    if greatest is None:
        return True
    most = whole * greatest[1]
    return most < greatest[0] or (most == greatest[0] and greatest_end == 1)


def rest_turned_over(fraction, whole):
    """One divided by what the fraction is above the integer; None if it is the integer."""
    top, bottom = fraction
    rest = top - whole * bottom
    return None if rest == 0 else (bottom, rest)


def simplest_in(least, least_end, greatest, greatest_end):
    """The fraction with the least bottom, and of these the least one, in a stretch that is not empty.

    If no integer is in the stretch, all of it lies between two neighbours. Then
    what it is above the lower one is turned over: that gives a stretch again,
    whose simplest number has the least top as well as the least bottom.
    """
    wholes = []
    whole = first_whole(least, least_end)
    while not is_whole_up_to(whole, greatest, greatest_end):
        below = least[0] // least[1]
        wholes.append(below)
        least, greatest = rest_turned_over(greatest, below), rest_turned_over(least, below)
        least_end, greatest_end = greatest_end, least_end
        whole = first_whole(least, least_end)
    top, bottom = whole, 1
    for below in reversed(wholes):
        top, bottom = below * top + bottom, top
    return (top, bottom)


def lowest_stretch(stretch):
    """The stretch (least, end, greatest, end) with its ends in lowest terms."""
    least, least_end, greatest, greatest_end = stretch
    told = None if greatest is None else lowest_terms(greatest[0], greatest[1])
    return (lowest_terms(least[0], least[1]), least_end, told, greatest_end)


def later_end(one, other):
    """Of two pairs of a least number and of 1 or 0 the one that leaves less."""
    order = order_of(one[0], other[0])
    if order == 0:
        return one if one[1] == 0 else other
    return one if order > 0 else other


def earlier_end(one, other):
    """Of two pairs of a greatest number, None for no end, and of 1 or 0 the one that leaves less."""
    if one[0] is None or other[0] is None:
        return other if one[0] is None else one
    order = order_of(one[0], other[0])
    if order == 0:
        return one if one[1] == 0 else other
    return one if order < 0 else other


def shared_stretch(one, other):
    """The stretch of the pauses that two stretches share, None if there are none."""
    least, least_end = later_end(one[:2], other[:2])
    greatest, greatest_end = earlier_end(one[2:], other[2:])
    if is_stretch_empty(least, least_end, greatest, greatest_end):
        return None
    return (least, least_end, greatest, greatest_end)


def is_in_stretch(stretch, pause):
    """Whether the pause is in the stretch."""
    return shared_stretch(stretch, (pause, 1, pause, 1)) is not None


def simplest_of(stretches):
    """The simplest one of all pauses of some stretches, None if there are no stretches."""
    found = [simplest_in(*stretch) for stretch in stretches]
    return min(found, key=lambda pause: (pause[1], pause[0]), default=None)
