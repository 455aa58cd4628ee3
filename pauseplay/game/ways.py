"""Waiting at a place into what is good, past what is bad."""

from pauseplay.base.exact import lowest_terms
from pauseplay.base.points import is_pause
from pauseplay.game.waits import is_right, safe_stretch, simplest_right, way_grids
from pauseplay.lots.areas import area_of, check_area, grids_of
from pauseplay.machine.machines import check_machine, check_place, limits_grid
from pauseplay.machine.runs import check_standing
from pauseplay.machine.spreads import met_grids


def way(machine, place, goods, bads):
    """An area with just the points within the limits that have a right pause."""
    check_machine(machine)
    check_place(machine, place)
    check_area(machine.clocks, goods)
    check_area(machine.clocks, bads)
    let = met_grids(grids_of(goods), limits_grid(machine, place))
    return area_of(way_grids(let, grids_of(bads)))


def safe_pauses(machine, standing, bads):
    """The end of the safe pauses, and 1 if it is safe itself, else 0; None without an end, () if none is safe."""
    check_machine(machine)
    check_standing(machine, standing)
    check_area(machine.clocks, bads)
    safe = safe_stretch(limits_grid(machine, standing[0]), grids_of(bads), standing[1])
    if safe is None:
        return ()
    _, _, greatest, end = safe
    return None if greatest is None else (lowest_terms(greatest[0], greatest[1]), end)


def check_waiting(machine, standing, goods, bads):
    """Raise the error for the first one that is wrong of a machine, a standing and two areas."""
    check_machine(machine)
    check_standing(machine, standing)
    check_area(machine.clocks, goods)
    check_area(machine.clocks, bads)


def pause_for(machine, standing, goods, bads):
    """The simplest right pause, None if there is none."""
    check_waiting(machine, standing, goods, bads)
    place, point = standing
    return simplest_right(limits_grid(machine, place), grids_of(goods), grids_of(bads), point)


def is_pause_for(machine, standing, goods, bads, value):
    """Whether the value is a right pause."""
    check_waiting(machine, standing, goods, bads)
    place, point = standing
    if not is_pause(value):
        return False
    return is_right(limits_grid(machine, place), grids_of(goods), grids_of(bads), point, value)
