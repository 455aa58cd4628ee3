"""Fewer grids with the same points: two that make up one grid are joined. Nothing is checked here."""

from pauseplay.lots.grids import NO_BOUND, cut_grid, is_grid_within, opposite_code

# Codes of opposite bounds, between which no number is left out, add up to so much.
LEAST_OF_TOUCH = 1


def touching_ones(grid, others):
    """Those of the others that share a point with the grid or stand beside it, as far as two bounds can tell."""
    left = others
    for at, row in enumerate(grid):
        for to, code in enumerate(row):
            if at != to and code != NO_BOUND:
                least = LEAST_OF_TOUCH - code
                left = [other for other in left if other[to][at] >= least]
                if not left:
                    return left
    return left


def hull_of(grid, other):
    """The least grid that has all points of both."""
    return tuple([
        tuple([code if code > most else most for code, most in zip(row, other_row)])
        for row, other_row in zip(grid, other)
    ])


def is_hull_filled(hull, grid, other):
    """Whether the hull of two grids has no points but theirs: what each bound of the one cuts off is the other's."""
    for at, row in enumerate(grid):
        for to, code in enumerate(row):
            if code < hull[at][to] and not is_grid_within(cut_grid(hull, to, at, opposite_code(code)), other):
                return False
    return True


def partner_of(grid, others):
    """One of the others that makes up one grid with this one, and that grid; (None, grid) if there is none."""
    for other in touching_ones(grid, others):
        hull = hull_of(grid, other)
        if is_hull_filled(hull, grid, other):
            return (other, hull)
    return (None, grid)


def joined_into(grids, further):
    """(grids, fresh): these grids, no two of which can be joined, with further ones joined in; and which are new."""
    found = list(grids)
    known = {grid: True for grid in grids}
    waiting = list(further)
    while waiting:
        other, grid = partner_of(waiting.pop(), found)
        if other is None:
            found.append(grid)
        elif grid != other:
            found.remove(other)
            waiting.append(grid)
    return (found, [grid for grid in found if grid not in known])


def joined_grids(grids):
    """Grids with just the points of these, no two of which make up one grid."""
    return joined_into([], grids)[0]
