"""Rules, and lots: the points that keep some rules, told by bounds that are as tight as can be."""

from pauseplay.base.bounds import is_bound
from pauseplay.base.exact import bounds_added
from pauseplay.base.integers import is_mark, is_pair, is_whole_between
from pauseplay.base.points import MOST_CLOCKS, check_clocks, is_point
from pauseplay.errors import InvalidLot, InvalidOperation, InvalidPoint
from pauseplay.lots.grids import grid_of, is_grid_within, is_tight, kept_grid, lot_of, whole_grid
from pauseplay.lots.spots import has_spot, some_spot

MOST_RULES = 100

GREATEST_NUMBER = 10 ** 9


def is_rule_up_to(clocks, value, greatest):
    """Whether the value is a rule of so many clocks, its number at most the greatest one, with a minus or without."""
    if not (isinstance(value, tuple) and len(value) == 3):
        return False
    one, other, bound = value
    if not (is_whole_between(one, 0, clocks) and is_whole_between(other, 0, clocks) and one != other):
        return False
    return is_pair(bound) and is_whole_between(bound[0], -greatest, greatest) and is_mark(bound[1])


def is_rule(clocks, value):
    """Whether the value is a rule of so many clocks."""
    check_clocks(clocks)
    return is_rule_up_to(clocks, value, GREATEST_NUMBER)


def check_rules(clocks, rules):
    """Raise InvalidOperation unless this is a tuple of at most 100 rules of so many clocks."""
    if not (isinstance(rules, tuple) and len(rules) <= MOST_RULES):
        raise InvalidOperation("the rules are not a tuple of at most 100")
    if not all([is_rule(clocks, rule) for rule in rules]):
        raise InvalidOperation("a rule is a triple (i, j, bound) of two clocks, or of a clock and 0")


def lot_or_ring(clocks, rules):
    """("lot", the lot of all points that keep the rules), or ("ring", a ring of the rules)."""
    check_clocks(clocks)
    check_rules(clocks, rules)
    grid = kept_grid(clocks, rules)
    if grid is None:
        return ("ring", some_ring(clocks, rules))
    return ("lot", lot_of(grid))


def single_ways(clocks, rules):
    """A dict that has for two clocks the tightest bound of one rule, and that rule's index in a tuple."""
    ways = {(0, clock): ((0, 1), (-clock,)) for clock in range(1, clocks + 1)}
    for at, (one, other, bound) in enumerate(rules):
        if (one, other) not in ways or bound < ways[one, other][0]:
            ways[one, other] = (bound, (at,))
    return ways


def some_ring(clocks, rules):
    """A ring of the rules, None if some point keeps all of them.

    Sums of bounds are made less, clock after clock, until 0 is not within one that comes back.
    Each clock lets ways be at most twice as long, so the ring has at most 32 integers.
    """
    ways = single_ways(clocks, rules)
    for middle in range(clocks + 1):
        firsts = [one for one in range(clocks + 1) if (one, middle) in ways]
        lasts = [other for other in range(clocks + 1) if (middle, other) in ways]
        for one in firsts:
            for other in lasts:
                bound = bounds_added(ways[one, middle][0], ways[middle, other][0])
                indices = ways[one, middle][1] + ways[middle, other][1]
                if one == other:
                    if bound < (0, 1):
                        return indices
                elif (one, other) not in ways or bound < ways[one, other][0]:
                    ways[one, other] = (bound, indices)
    return None


def rule_told(rules, index):
    """The rule with this index, or the one that a clock keeps anyway, told by its negative."""
    return rules[index] if index >= 0 else (0, -index, (0, 1))


def is_ring(clocks, rules, value):
    """Whether the value is a ring of the rules."""
    check_clocks(clocks)
    check_rules(clocks, rules)
    if not (isinstance(value, tuple) and value):
        return False
    if not all([is_whole_between(index, -clocks, len(rules) - 1) for index in value]):
        return False
    told = [rule_told(rules, index) for index in value]
    if not all([rule[1] == following[0] for rule, following in zip(told, told[1:] + told[:1])]):
        return False
    whole = (0, 1)
    for rule in told:
        whole = bounds_added(whole, rule[2])
    return whole < (0, 1)


def is_row(value, many):
    """Whether the value is a tuple of so many bounds."""
    return isinstance(value, tuple) and len(value) == many and all([is_bound(bound) for bound in value])


def is_lot(value):
    """Whether the value is a lot of some number of clocks."""
    if not (isinstance(value, tuple) and 1 <= len(value) <= MOST_CLOCKS + 1):
        return False
    return all([is_row(row, len(value)) for row in value]) and is_tight(grid_of(value))


def check_lot(value):
    """Raise InvalidLot unless the value is a lot."""
    if not is_lot(value):
        raise InvalidLot("a lot is a tuple of equally many tight rows of bounds, of 0 to 4 clocks")


def check_alike(one, other):
    """Raise InvalidOperation unless two lots are of equally many clocks."""
    if len(one) != len(other):
        raise InvalidOperation("the lots have unlike numbers of clocks")


def check_point_beside(lot, point):
    """Raise InvalidPoint unless this is a point of as many clocks as the lot."""
    if not is_point(len(lot) - 1, point):
        raise InvalidPoint("a point of as many clocks as the lot is asked for")


def everything(clocks):
    """The lot of all points."""
    check_clocks(clocks)
    return lot_of(whole_grid(clocks))


def has_point(lot, point):
    """Whether the point is one of the lot."""
    check_lot(lot)
    check_point_beside(lot, point)
    return has_spot(grid_of(lot), point)


def point_of(lot):
    """A point of the lot: each clock shows the simplest number that it can show beside those ahead of it."""
    check_lot(lot)
    return some_spot(grid_of(lot))


def is_lot_within(lot, other):
    """Whether all points of the lot are points of the other one."""
    check_lot(lot)
    check_lot(other)
    check_alike(lot, other)
    return is_grid_within(grid_of(lot), grid_of(other))


def rules_of(lot):
    """The ascending tuple of rules that only the points of the lot keep: all its bounds but the diagonal."""
    check_lot(lot)
    return tuple([
        (at, to, bound)
        for at, row in enumerate(lot)
        for to, bound in enumerate(row)
        if at != to and bound is not None
    ])
