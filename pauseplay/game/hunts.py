"""Keeping off places for ever, and the rounds of the foe that end it. Nothing is checked here.

The *ground* has all points at the bads, and further ones that were put to them. An offer is
safe by the rest of the ground if no answer to it leads into the ground.
"""

from pauseplay.game.leads import all_led, all_led_off
from pauseplay.game.ranks import is_any_met
from pauseplay.game.waits import way_grids
from pauseplay.lots.grids import earlier_grid
from pauseplay.lots.joins import joined_grids, joined_into
from pauseplay.lots.parts import are_covered, grids_common, grids_less, uncovered_ones
from pauseplay.machine.spreads import deeds_from, grids_ahead_of_deed


def safe_grids(layout, place, spread):
    """Grids of the points at the place with an offer, or waiting on, no answer to which leads out of the spread."""
    goods, bads = all_led(layout, place, "own", spread), all_led_off(layout, place, "foe", spread)
    never_met = grids_less([layout.limits[place]], [earlier_grid(bad) for bad in bads])
    return joined_grids(never_met + way_grids(goods, bads))


class Ground:
    """A ground, a spread, with what leads into it by the foe's deeds, and out of it by own deeds.

    For each place there is what was put last: grids from which the foe's deeds newly lead
    into the ground, and grids from which own deeds do not lead out of it any more.
    """

    def __init__(self, layout, bads):
        self.layout = layout
        self.bads = bads
        self.spread = [[] for _ in layout.limits]
        self.into = [[] for _ in layout.opened]
        self.off = [[] if grid is None else [grid] for grid in layout.opened]
        self.put([[limit] if place in bads else [] for place, limit in enumerate(layout.limits)])

    def put(self, further):
        """Put the points of a spread to the ground."""
        both = [joined_into(grids, fresh) for grids, fresh in zip(self.spread, further)]
        self.spread = [grids for grids, _ in both]
        self.fresh = [[] for _ in self.spread]
        self.lost = [[] for _ in self.spread]
        for deed, (owner, start, goal, _, _) in enumerate(self.layout.all_deeds):
            if self.layout.opened[deed] is not None:
                led = grids_ahead_of_deed(self.layout, deed, both[goal][1])
                if owner == "foe":
                    self.into[deed], fresh = joined_into(self.into[deed], led)
                    self.fresh[start].extend(fresh)
                elif led:
                    self.off[deed] = joined_grids(grids_less(self.off[deed], led))
                    self.lost[start].extend(led)

    def led_in(self, place):
        """Grids of the points at the place at which some deed of the foe leads into the ground."""
        return [grid for deed in deeds_from(self.layout, place, ("foe",)) for grid in self.into[deed]]

    def ways_near(self, place, grids, met):
        """Those grids that wait out of the ground by own deeds, past what is met, that can share a point with these."""
        own = deeds_from(self.layout, place, ("own",))
        off = [grid for deed in own for grid in self.off[deed] if is_any_met(earlier_grid(grid), grids)]
        return way_grids(off, met)

    def are_hunted(self, place, grids):
        """Whether all points of the grids at the place have no offer that is safe by the rest of the ground."""
        if place in self.bads or not grids:
            return True
        met = self.led_in(place)
        if not are_covered(grids, [earlier_grid(grid) for grid in met]):
            return False
        return grids_common(grids, self.ways_near(place, grids, met)) == []

    def ahead_of_change(self, place, met):
        """Grids of the points that can wait into what is met, and into what was put last."""
        fresh = [earlier_grid(grid) for grid in self.fresh[place]]
        if not self.lost[place]:
            return fresh
        lost = [earlier_grid(grid) for grid in self.lost[place]]
        return fresh + grids_common(lost, [earlier_grid(grid) for grid in met])

    def added_at(self, place):
        """Grids of the points at the place that are hunted by the ground, and that it lacks in part."""
        if place in self.bads:
            return []
        met = self.led_in(place)
        # Only from there can something have changed: a deed of the foe is met, or an own one has lost its worth.
        changed = uncovered_ones(self.ahead_of_change(place, met), self.spread[place])
        if not changed:
            return []
        hunted = joined_grids(grids_less(changed, self.ways_near(place, changed, met)))
        return uncovered_ones(hunted, self.spread[place])

    def go_on(self):
        """Put in what is hunted by the ground; tell the spread of it, None if the ground has it all."""
        further = [self.added_at(place) for place in range(len(self.spread))]
        if not any([grids != [] for grids in further]):
            return None
        self.put(further)
        return further


def all_rounds(ground):
    """The list of the spreads that are put to the ground, one behind the other, until it has all."""
    found = []
    further = ground.go_on()
    while further is not None:
        found.append(further)
        further = ground.go_on()
    return found


def is_spread_kept(layout, spread):
    """Whether each point of the spread has an offer, or can wait on, so that no answer leads out of the spread."""
    return all([
        grids == [] or are_covered(grids, safe_grids(layout, place, spread)) for place, grids in enumerate(spread)
    ])


def is_hunt_right(layout, bads, spreads):
    """Whether each spread is hunted by the ground of those ahead of it."""
    ground = Ground(layout, bads)
    for spread in spreads:
        if not all([ground.are_hunted(place, grids) for place, grids in enumerate(spread)]):
            return False
        ground.put(spread)
    return True
