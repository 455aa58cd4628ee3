"""Waiting into some grids past others. Nothing is checked here: integers have any length."""

from pauseplay.base.stretches import is_in_stretch, is_stretch_empty, shared_stretch, simplest_of
from pauseplay.lots.grids import earlier_grid
from pauseplay.lots.joins import joined_grids
from pauseplay.lots.parts import cutters_of, grids_less, parts_left
from pauseplay.lots.spots import stretch_into
from pauseplay.machine.spreads import met_grids


def ways_into(good, bads):
    """Grids of the points that wait into the good grid past the bad ones, which share no point with it.

    A moment of waiting into the good grid is one from which one can still do so. So only bad
    points from which one can do so count, and they are met ahead of the good grid: who can
    wait into one of them has to.
    """
    ahead = earlier_grid(good)
    met = met_grids(bads, ahead)
    return parts_left(ahead, cutters_of(joined_grids([earlier_grid(grid) for grid in met])))


def goods_less(goods, bads):
    """Grids of the points of the goods that are none of the bads."""
    return joined_grids(grids_less(goods, bads))


def way_grids(goods, bads):
    """Grids of the points with a pause into the goods, up to which, at its end too, none of the bads is met."""
    return joined_grids([grid for good in goods_less(goods, bads) for grid in ways_into(good, bads)])


def safe_before(bad, point):
    """The stretch of the pauses at whose moments, up to their ends, the point is not in the bad grid; None for none."""
    stretch = stretch_into(bad, point)
    if stretch is None:
        return ((0, 1), 1, None, 0)
    least, end, _, _ = stretch
    if is_stretch_empty((0, 1), 1, least, 1 - end):
        return None
    return ((0, 1), 1, least, 1 - end)


def safe_stretch(limit, bads, point):
    """The stretch of the safe pauses from a point within the limits, None if there are none."""
    safe = stretch_into(limit, point)
    for bad in bads:
        before = safe_before(bad, point)
        safe = None if safe is None or before is None else shared_stretch(safe, before)
    return safe


def right_stretches(limit, goods, bads, point):
    """The stretches of the right pauses from a point within the limits, one for each good grid that has some."""
    safe = safe_stretch(limit, bads, point)
    if safe is None:
        return []
    into = [stretch_into(good, point) for good in goods]
    shared = [shared_stretch(safe, stretch) for stretch in into if stretch is not None]
    return [stretch for stretch in shared if stretch is not None]


def simplest_right(limit, goods, bads, point):
    """The simplest right pause, None if there is none."""
    return simplest_of(right_stretches(limit, goods, bads, point))


def is_right(limit, goods, bads, point, pause):
    """Whether the pause is right."""
    return any([is_in_stretch(stretch, pause) for stretch in right_stretches(limit, goods, bads, point)])
