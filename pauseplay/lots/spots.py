"""Points and pauses in grids. Nothing is checked here: integers have any length."""

from pauseplay.base.exact import lowest_point
from pauseplay.base.stretches import is_stretch_empty, simplest_in
from pauseplay.lots.grids import NO_BOUND


def is_code_kept(code, top, bottom):
    """Whether the fraction is within the bound with this code."""
    return code == NO_BOUND or top < (code >> 1) * bottom + (code & 1)


def is_kept_among(grid, point, among):
    """Whether the point is within the bounds between these clocks, 0 being nought."""
    bottom, values = point
    shown = (0, *values)
    for one in among:
        for other in among:
            if not is_code_kept(grid[one][other], shown[one] - shown[other], bottom):
                return False
    return True


def has_spot(grid, point):
    """Whether the point is one of the grid."""
    return is_kept_among(grid, point, list(range(len(grid))))


def least_end(ends, bottom):
    """The greatest of the least numbers that pairs let, and 1 if it is let itself, else 0.

    A pair has a number, over the bottom, and the code of what it is at most above what it bounds.
    """
    least, is_left_out = max([
        (number - (code >> 1) * bottom, 1 - (code & 1)) for number, code in ends if code != NO_BOUND
    ])
    return ((least, bottom), 1 - is_left_out)


def greatest_end(ends, bottom):
    """The least of the greatest numbers that pairs let, None without one, and 1 if it is let itself, else 0.

    A pair has a number, over the bottom, and the code of what it is at most exceeded by.
    """
    greatest = [(number + (code >> 1) * bottom, code & 1) for number, code in ends if code != NO_BOUND]
    if not greatest:
        return (None, 0)
    number, end = min(greatest)
    return ((number, bottom), end)


def stretch_into(grid, point):
    """The stretch of the pauses that lead the point into the grid: (least, end, greatest, end); None for none."""
    if not is_kept_among(grid, point, list(range(1, len(grid)))):
        return None
    bottom, values = point
    # That no pause is below nought is what the bound (0, 1) of nought itself says.
    from_below = [(-value, code) for value, code in zip((0, *values), grid[0])]
    from_above = [(-value, row[0]) for value, row in zip(values, grid[1:])]
    least, is_least_in = least_end(from_below, bottom)
    greatest, is_greatest_in = greatest_end(from_above, bottom)
    if is_stretch_empty(least, is_least_in, greatest, is_greatest_in):
        return None
    return (least, is_least_in, greatest, is_greatest_in)


def simplest_beside(grid, clock, shown, bottom):
    """The simplest number that a clock can show beside what others show: a dict of numbers over the bottom."""
    least, is_least_in = least_end([(shown[other], grid[other][clock]) for other in shown], bottom)
    greatest, is_greatest_in = greatest_end([(shown[other], grid[clock][other]) for other in shown], bottom)
    return simplest_in(least, is_least_in, greatest, is_greatest_in)


def with_told(grid, clocks, point):
    """The point with the clocks showing, one after the other, the simplest number that they can show in the grid.

    The other clocks show what the point tells, which the grid lets. As it is tight,
    each number that is let beside those ahead leaves one for each clock behind.
    """
    bottom, values = point
    shown = {at: value for at, value in enumerate((0, *values)) if at not in clocks}
    for clock in clocks:
        top, under = simplest_beside(grid, clock, shown, bottom)
        shown = {at: shown[at] * under for at in shown}
        shown[clock] = top * bottom
        bottom = bottom * under
    return lowest_point(bottom, [shown[clock] for clock in range(1, len(grid))])


def some_spot(grid):
    """A point of the grid, in lowest terms."""
    clocks = list(range(1, len(grid)))
    return with_told(grid, clocks, (1, tuple([0] * len(clocks))))


def spot_back_from(grid, clocks, point):
    """The point of the grid that is the point when the clocks are set back; None if there is none."""
    bottom, values = point
    if any([values[clock - 1] != 0 for clock in clocks]):
        return None
    if not is_kept_among(grid, point, [at for at in range(len(grid)) if at not in clocks]):
        return None
    return with_told(grid, clocks, point)
