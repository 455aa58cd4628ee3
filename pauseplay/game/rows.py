"""Rows (place, grid, deed, target grid) of own papers, made by rounds and judged. Nothing is checked here.

The *gone* spread of a row has all points at goal places, and the grids of the rows ahead of it.
"""

from pauseplay.game.leads import grids_led_off
from pauseplay.game.ranks import Rounds
from pauseplay.game.waits import goods_less, way_grids, ways_into
from pauseplay.lots.grids import back_grid, is_grid_within
from pauseplay.lots.joins import joined_grids, joined_into
from pauseplay.lots.parts import are_covered, grids_less, thinned_grids, uncovered_ones
from pauseplay.lots.spots import has_spot
from pauseplay.machine.spreads import deeds_from, grids_ahead_of_deed


class RowedRounds(Rounds):
    """Rounds that keep rows, each with a grid of a round and with what it waits into."""

    def __init__(self, layout, goals):
        Rounds.__init__(self, layout, goals)
        self.rows = []

    def ways_at(self, place, goods, bads):
        """As of Rounds; the rows for these grids are put to the others."""
        found = [
            (place, grid, deed, target)
            for deed, grids in goods
            for target in goods_less(grids, bads)
            for grid in joined_grids(ways_into(target, bads))
        ]
        fresh = thinned_grids(uncovered_ones([row[1] for row in found], self.won[place]))
        row_of = {row[1]: row for row in found}
        self.rows.extend([row_of[grid] for grid in fresh])
        return fresh


class Gone:
    """The gone spread of a row, and for each deed of the foe what it leads out of it."""

    def __init__(self, layout, goals):
        self.layout = layout
        self.spread = [[limit] if place in goals else [] for place, limit in enumerate(layout.limits)]
        self.told = [list(grids) for grids in self.spread]
        self.out = [[] if grid is None else [grid] for grid in layout.opened]
        self.looked_at = [0 for _ in layout.opened]

    def out_by(self, deed):
        """What the deed leads out; only what was put in since it was asked for is looked at."""
        told = self.told[self.layout.all_deeds[deed][2]]
        further = told[self.looked_at[deed]:]
        self.looked_at[deed] = len(told)
        if further:
            let = grids_ahead_of_deed(self.layout, deed, further)
            self.out[deed] = joined_grids(grids_less(self.out[deed], let))
        return self.out[deed]

    def bads_at(self, place):
        """Grids of the points at the place at which some deed of the foe leads out."""
        return [grid for deed in deeds_from(self.layout, place, ("foe",)) for grid in self.out_by(deed)]

    def is_right(self, row):
        """Whether the deed leads from the target into the gone spread, and the grid waits into the target past bads."""
        place, grid, deed, target = row
        opened = self.layout.opened[deed]
        if opened is None or not is_grid_within(target, opened):
            return False
        _, _, goal, _, back = self.layout.all_deeds[deed]
        if not are_covered([back_grid(target, back)], self.spread[goal]):
            return False
        return are_covered([grid], way_grids([target], self.bads_at(place)))

    def put(self, row):
        """Put in the grid of a row."""
        place, grid, _, _ = row
        self.told[place].append(grid)
        self.spread[place] = joined_into(self.spread[place], [grid])[0]


def are_rows_right(layout, goals, rows):
    """Whether all rows are right, each one by the rows ahead of it."""
    gone = Gone(layout, goals)
    for row in rows:
        if not gone.is_right(row):
            return False
        gone.put(row)
    return True


def bads_of_row(layout, goals, rows, index):
    """Grids of the points at which some deed of the foe leads out of the gone spread of the row with this index."""
    spread = [[limit] if place in goals else [] for place, limit in enumerate(layout.limits)]
    for place, grid, _, _ in rows[:index]:
        spread[place].append(grid)
    foes = deeds_from(layout, rows[index][0], ("foe",))
    return [grid for deed in foes for grid in grids_led_off(layout, deed, spread)]


def rows_at(rows, standing):
    """The list of the indices of the rows whose grids have the standing."""
    place, point = standing
    return [index for index, row in enumerate(rows) if row[0] == place and has_spot(row[1], point)]
