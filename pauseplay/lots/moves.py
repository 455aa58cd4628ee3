"""What lots become: met, cut, later, earlier, freed, set back; pauses into them, points ahead of setting back."""

from pauseplay.base.integers import is_ascending
from pauseplay.base.stretches import simplest_in
from pauseplay.errors import InvalidOperation
from pauseplay.lots.grids import ahead_grid, back_grid, code_of, cut_grid, earlier_grid, freed_grid, grid_of
from pauseplay.lots.grids import later_grid, lot_of, met_grid
from pauseplay.lots.lots import check_alike, check_lot, check_point_beside, is_rule
from pauseplay.lots.spots import spot_back_from, stretch_into


def lot_or_none(grid):
    """The lot of a grid, None for None."""
    return None if grid is None else lot_of(grid)


def meet(one, other):
    """The lot of the points that both lots have, None if there are none."""
    check_lot(one)
    check_lot(other)
    check_alike(one, other)
    return lot_or_none(met_grid(grid_of(one), grid_of(other)))


def cut(lot, rule):
    """The lot of the points of the lot that keep the rule, None if there are none."""
    check_lot(lot)
    if not is_rule(len(lot) - 1, rule):
        raise InvalidOperation("a rule for the clocks of the lot is asked for")
    one, other, bound = rule
    return lot_or_none(cut_grid(grid_of(lot), one, other, code_of(bound)))


def later_lot(lot):
    """The lot of the points to which points of the lot can wait."""
    check_lot(lot)
    return lot_of(later_grid(grid_of(lot)))


def earlier_lot(lot):
    """The lot of the points that can wait into the lot."""
    check_lot(lot)
    return lot_of(earlier_grid(grid_of(lot)))


def check_clocks_of(lot, clocks):
    """Raise InvalidOperation unless this is an ascending tuple of clocks of the lot."""
    if not is_ascending(clocks, 1, len(lot) - 1):
        raise InvalidOperation("an ascending tuple of clocks of the lot is asked for")


def freed_lot(lot, clocks):
    """The lot of the points that show at all other clocks what some point of the lot shows."""
    check_lot(lot)
    check_clocks_of(lot, clocks)
    return lot_of(freed_grid(grid_of(lot), clocks))


def back_lot(lot, clocks):
    """The lot of what the points of the lot are when the clocks are set back."""
    check_lot(lot)
    check_clocks_of(lot, clocks)
    return lot_of(back_grid(grid_of(lot), clocks))


def ahead_of_back(lot, clocks):
    """The lot of the points that are in the lot when the clocks are set back, None if there are none."""
    check_lot(lot)
    check_clocks_of(lot, clocks)
    return lot_or_none(ahead_grid(grid_of(lot), clocks))


def pause_into(lot, point):
    """The simplest pause behind which the point is in the lot, None if there is none."""
    check_lot(lot)
    check_point_beside(lot, point)
    stretch = stretch_into(grid_of(lot), point)
    return None if stretch is None else simplest_in(*stretch)


def back_from(lot, clocks, point):
    """A point of the lot that is this one when the clocks are set back, None if there is none.

    The clocks show one after the other the simplest number that such a point can show.
    """
    check_lot(lot)
    check_clocks_of(lot, clocks)
    check_point_beside(lot, point)
    return spot_back_from(grid_of(lot), clocks, point)
