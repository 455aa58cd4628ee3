"""Lists of grids, and what is left of grids when others are cut off. Nothing is checked here."""

from pauseplay.lots.grids import LEAST_OF_RING, NO_BOUND, code_sum, cut_grid, is_grid_within, met_grid
from pauseplay.lots.grids import opposite_code


def is_in_another(grid, grids):
    """Whether another one of these unlike grids has all points of the grid, which is one of them."""
    left = grids
    for at, row in enumerate(grid):
        for to, code in enumerate(row):
            if at != to:
                left = [other for other in left if other[at][to] >= code]
                if len(left) == 1:
                    return False
    return len(left) > 1


def thinned_grids(grids):
    """Those grids that are not within another one of them, of equal ones the first, in their sequence."""
    unlike = list({grid: True for grid in grids})
    return [grid for grid in unlike if not is_in_another(grid, unlike)]


def is_implied(grid, one, other):
    """Whether the bound between the clocks is the sum of two further bounds of the grid."""
    return any([
        code_sum(grid[one][middle], grid[middle][other]) == grid[one][other]
        for middle in range(len(grid))
        if middle != one and middle != other
    ])


def rules_to_cut(grid):
    """The rules of a grid; behind all others those that others imply, as they seldom cut what those left."""
    rules = [
        (one, other, code)
        for one, row in enumerate(grid)
        for other, code in enumerate(row)
        if one != other and code != NO_BOUND
    ]
    implied = [rule for rule in rules if is_implied(grid, rule[0], rule[1])]
    return [rule for rule in rules if rule not in implied] + implied


class Cutter:
    """A grid that is cut off others, its index, and its rules: triples of two clocks and a code."""

    def __init__(self, grid, index):
        self.grid = grid
        self.index = index
        self.kept_rules = None

    def rules(self):
        """The rules; most cutters are never asked for them."""
        if self.kept_rules is None:
            self.kept_rules = rules_to_cut(self.grid)
        return self.kept_rules


def cutters_of(grids):
    """The cutters for some grids."""
    return [Cutter(grid, index) for index, grid in enumerate(grids)]


def near_ones(grid, cutters):
    """Those cutters that share a point with the grid, as far as two bounds can tell."""
    left = cutters
    for at, row in enumerate(grid):
        for to, code in enumerate(row):
            if at != to and code != NO_BOUND:
                least = LEAST_OF_RING - code
                left = [cutter for cutter in left if cutter.grid[to][at] >= least]
    return left


def index_around(grid, cutters):
    """The index of the first one whose grid has all points of this one, None if there is none."""
    for cutter in cutters:
        if is_grid_within(grid, cutter.grid):
            return cutter.index
    return None


def how_many_cut(grid, rules):
    """How many of the rules some point of the grid does not keep."""
    return len([code for one, other, code in rules if grid[one][other] > code])


def best_cutter(grid, cutters):
    """Of those that share a point with the grid one whose rules cut it least often, None if there is none."""
    best, fewest = None, 0
    for cutter in cutters:
        many = how_many_cut(grid, cutter.rules())
        if (best is None or many < fewest) and met_grid(grid, cutter.grid) is not None:
            best, fewest = cutter, many
            # A grid that no cutter has within it is cut at least once by each.
            if fewest == 1:
                return best
    return best


def parts_cut_off(grid, rules):
    """A list of pairs: each rule that cuts what those ahead of it left, and the grid of what it cuts off."""
    parts = []
    for one, other, code in rules:
        if grid[one][other] > code:
            parts.append(((one, other, code), cut_grid(grid, other, one, opposite_code(code))))
            grid = cut_grid(grid, one, other, code)
    return parts


def grids_common(grids, others):
    """Grids with just the points that both lists of grids have."""
    cutters = cutters_of(thinned_grids(others))
    met = [met_grid(grid, cutter.grid) for grid in thinned_grids(grids) for cutter in near_ones(grid, cutters)]
    return thinned_grids([grid for grid in met if grid is not None])


def parts_left(grid, cutters, most=None):
    """Grids with just the points of the grid that all cutters lack; no two of them share one.

    With a number as the most, no more than so many of them are looked for.
    """
    left = []
    waiting = [(grid, cutters)]
    while waiting and len(left) != most:
        part, near = waiting.pop()
        near = near_ones(part, near)
        if index_around(part, near) is None:
            cutter = best_cutter(part, near)
            if cutter is None:
                left.append(part)
            else:
                waiting.extend([(outside, near) for _, outside in parts_cut_off(part, cutter.rules())])
    return left


def grids_less(grids, others):
    """Grids with just the points of the grids that the others lack."""
    if not grids or not others:
        return thinned_grids(grids)
    cutters = cutters_of(thinned_grids(others))
    return thinned_grids([part for grid in thinned_grids(grids) for part in parts_left(grid, cutters)])


def is_covered(grid, cutters):
    """Whether all points of the grid are points of the cutters."""
    return parts_left(grid, cutters, 1) == []


def uncovered_ones(grids, others):
    """Those of the grids that have a point that all others lack."""
    cutters = cutters_of(others)
    known = {grid: True for grid in others}
    return [grid for grid in grids if grid not in known and not is_covered(grid, cutters)]


def are_covered(grids, others):
    """Whether all points of the grids are points of the others."""
    cutters = cutters_of(others)
    known = {grid: True for grid in others}
    for grid in grids:
        if grid not in known and not is_covered(grid, cutters):
            return False
    return True
