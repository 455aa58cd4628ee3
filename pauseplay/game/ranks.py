"""The rounds that tell what is won against the foe. Nothing is checked here."""

from pauseplay.game.waits import way_grids
from pauseplay.lots.grids import earlier_grid, met_grid
from pauseplay.lots.joins import joined_grids, joined_into
from pauseplay.lots.parts import grids_less, uncovered_ones
from pauseplay.lots.spots import has_spot
from pauseplay.machine.spreads import deeds_from, grids_ahead_of_deed


class Rounds:
    """The standings that are won by few offers: a spread, what the last round added, and how many rounds are gone.

    For each own deed there is what it leads into the spread, and for each deed of the foe
    what it leads out of it. Only what changes in a round is looked at in the next one.
    """

    def __init__(self, layout, goals):
        self.layout = layout
        self.goals = goals
        self.gone = 0
        self.won = [[limit] if place in goals else [] for place, limit in enumerate(layout.limits)]
        self.added = [list(grids) for grids in self.won]
        self.into = [[] for _ in layout.opened]
        self.out = [[] if grid is None else [grid] for grid in layout.opened]

    def led_to_added(self, deed):
        """Grids of the points at which the deed is open, and from which it leads to what the last round added."""
        return grids_ahead_of_deed(self.layout, deed, self.added[self.layout.all_deeds[deed][2]])

    def bads_at(self, place):
        """What the foe's deeds lead out, now that they have further standings to lead to; and what they lead there."""
        bads, freed = [], []
        for deed in deeds_from(self.layout, place, ("foe",)):
            let = self.led_to_added(deed)
            if let:
                self.out[deed] = joined_grids(grids_less(self.out[deed], let))
                freed.extend(let)
            bads.extend(self.out[deed])
        return (bads, freed)

    def goods_by(self, deed, freed):
        """Those grids at which the own deed leads into the spread and that are new, or come to past what is freed."""
        self.into[deed], fresh = joined_into(self.into[deed], self.led_to_added(deed))
        again = [grid for grid in self.into[deed] if grid not in fresh and is_any_met(earlier_grid(grid), freed)]
        return fresh + again

    def added_at(self, place):
        """Grids of the points at the place that the next round has, and this one has not."""
        if place in self.goals:
            return []
        bads, freed = self.bads_at(place)
        goods = [(deed, self.goods_by(deed, freed)) for deed in deeds_from(self.layout, place, ("own",))]
        return self.ways_at(place, goods, bads)

    def ways_at(self, place, goods, bads):
        """Grids that wait into the goods, a list of grids for each deed, past the bads, if the spread lacks a point."""
        all_goods = [grid for _, grids in goods for grid in grids]
        return uncovered_ones(way_grids(all_goods, bads), self.won[place])

    def go_on(self):
        """Go to the next round if it has further standings; tell whether it has."""
        further = [self.added_at(place) for place in range(len(self.won))]
        if not any([grids != [] for grids in further]):
            return False
        both = [joined_into(grids, fresh) for grids, fresh in zip(self.won, further)]
        self.won = [grids for grids, _ in both]
        self.added = [fresh for _, fresh in both]
        self.gone += 1
        return True


def is_any_met(grid, others):
    """Whether the grid shares a point with some other one."""
    for other in others:
        if met_grid(grid, other) is not None:
            return True
    return False


def rank_in(rounds, standing):
    """The number of the first round that has the standing, None if none has; rounds are gone on with as needed."""
    place, point = standing
    while not any([has_spot(grid, point) for grid in rounds.added[place]]):
        if not rounds.go_on():
            return None
    return rounds.gone
