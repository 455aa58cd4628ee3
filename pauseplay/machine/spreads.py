"""What becomes of grids at the places of a machine. A *spread* is a list with a list of grids for each place.

Nothing is checked here: the grids of a spread are within the limits of their place.
"""

from pauseplay.lots.grids import ahead_grid, back_grid, later_grid, met_grid
from pauseplay.lots.joins import joined_grids
from pauseplay.lots.parts import are_covered, grids_less
from pauseplay.machine.machines import limits_grid, open_grid

ALL_OWNERS = ("own", "foe")


class Layout:
    """The grids of the limits of each place, and of where each deed is open, None for nowhere."""

    def __init__(self, machine):
        self.all_deeds = machine.deeds
        self.limits = [limits_grid(machine, place) for place in range(len(machine.places))]
        self.opened = [open_grid(machine, deed) for deed in range(len(machine.deeds))]


def deeds_from(layout, place, owners):
    """The indices of the deeds of these owners that start at the place and are open somewhere."""
    return [
        index for index, deed in enumerate(layout.all_deeds)
        if deed[0] in owners and deed[1] == place and layout.opened[index] is not None
    ]


def met_grids(grids, other):
    """The grids of what each of these shares with the other one, as far as there are points."""
    found = [met_grid(grid, other) for grid in grids]
    return [grid for grid in found if grid is not None]


def grids_behind_wait(layout, place, grids):
    """Grids of the points to which one waits, within the limits, from points of the grids."""
    limit = layout.limits[place]
    return met_grids([later_grid(grid) for grid in grids], limit)


def grids_behind_deed(layout, deed, grids):
    """Grids of the points to which the deed leads from points of the grids, where it is open."""
    return [back_grid(grid, layout.all_deeds[deed][4]) for grid in met_grids(grids, layout.opened[deed])]


def grids_ahead_of_deed(layout, deed, grids):
    """Grids of the points at which the deed is open, and from which it leads into the grids.

    They need not be within the limits of the goal: where the deed is open it leads to no point beyond.
    """
    ahead = [ahead_grid(grid, layout.all_deeds[deed][4]) for grid in grids]
    return met_grids([grid for grid in ahead if grid is not None], layout.opened[deed])


def rest_of_spread(layout, spread):
    """The spread of all points within the limits that the spread lacks."""
    return [joined_grids(grids_less([limit], grids)) for limit, grids in zip(layout.limits, spread)]


def is_spread_within(spread, other):
    """Whether all points of the spread are points of the other one."""
    return all([are_covered(grids, others) for grids, others in zip(spread, other)])


def is_spread_closed(layout, spread):
    """Whether the spread has all points to which points of it can wait, or are led by deeds."""
    for place, grids in enumerate(spread):
        if not are_covered(grids_behind_wait(layout, place, grids), grids):
            return False
        for deed in deeds_from(layout, place, ALL_OWNERS):
            if not are_covered(grids_behind_deed(layout, deed, grids), spread[layout.all_deeds[deed][2]]):
                return False
    return True
