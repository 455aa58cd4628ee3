"""Rounds of what comes to goal places without a foe. Nothing is checked here."""

from pauseplay.base.stretches import simplest_of
from pauseplay.lots.grids import earlier_grid
from pauseplay.lots.joins import joined_into
from pauseplay.lots.parts import uncovered_ones
from pauseplay.lots.spots import has_spot, stretch_into
from pauseplay.machine.spreads import ALL_OWNERS, deeds_from, grids_ahead_of_deed
from pauseplay.machine.steps import standing_moved


class Coming:
    """The standings that come to goal places by few moves: a spread, and what each round added to it.

    A round is found from what the round ahead of it added: from there alone comes what is new.
    """

    def __init__(self, layout, goals):
        self.layout = layout
        self.found = [[limit] if place in goals else [] for place, limit in enumerate(layout.limits)]
        self.added = [[list(grids) for grids in self.found]]

    def added_at(self, place):
        """Grids of the points from which one waits and is led by a deed to what the last round added, if new."""
        last = self.added[-1]
        ahead = []
        for deed in deeds_from(self.layout, place, ALL_OWNERS):
            ahead.extend(grids_ahead_of_deed(self.layout, deed, last[self.layout.all_deeds[deed][2]]))
        return uncovered_ones([earlier_grid(grid) for grid in ahead], self.found[place])

    def go_on(self):
        """Go to the next round; tell whether it has further standings."""
        further = [self.added_at(place) for place in range(len(self.found))]
        both = [joined_into(grids, fresh) for grids, fresh in zip(self.found, further)]
        self.found = [grids for grids, _ in both]
        self.added.append([fresh for _, fresh in both])
        return any([fresh != [] for fresh in further])


def last_of(coming):
    """Go on until no round has further standings; tell the spread of all."""
    while coming.go_on():
        pass
    return coming.found


def moves_needed(coming, standing):
    """The number of the first round that has the standing, None if none has; rounds are gone on with as needed."""
    place, point = standing
    many = 0
    while not any([has_spot(grid, point) for grid in coming.added[many][place]]):
        many += 1
        if many == len(coming.added) and not coming.go_on():
            return None
    return many


def next_move(coming, standing, many):
    """The least deed that leads to what needs fewer moves than so many, and the simplest pause for it."""
    layout = coming.layout
    for deed in deeds_from(layout, standing[0], ALL_OWNERS):
        nearer = coming.added[many - 1][layout.all_deeds[deed][2]]
        stretches = [stretch_into(grid, standing[1]) for grid in grids_ahead_of_deed(layout, deed, nearer)]
        pause = simplest_of([stretch for stretch in stretches if stretch is not None])
        if pause is not None:
            return (pause, deed)
    return None


def moves_to_goals(machine, coming, standing, many):
    """So many moves from the standing to a goal place, which needs just as many."""
    moves = []
    for left in range(many, 0, -1):
        pause, deed = next_move(coming, standing, left)
        moves.append((pause, deed))
        standing = standing_moved(machine, standing, pause, deed)
    return tuple(moves)
