"""Knots: how to see that each point of some grids is one of some other grids. Integers have any length.

A knot is ("in", index of another grid) or ("cut", rule, knot inside, knot outside).
"""

from pauseplay.base.integers import TOO_GREAT, is_whole, is_whole_between
from pauseplay.lots.grids import bound_of, code_of, cut_grid, is_grid_within, opposite_code
from pauseplay.lots.lots import is_rule_up_to
from pauseplay.lots.parts import best_cutter, cutters_of, index_around, near_ones, parts_cut_off


def part_outside(grid, cutters, knots):
    """A grid of points of this one that the cutters lack; None if there are none, then knots are added for it."""
    knots.append(None)
    waiting = [(len(knots) - 1, grid, cutters)]
    while waiting:
        at, part, near = waiting.pop()
        near = near_ones(part, near)
        around = index_around(part, near)
        if around is None:
            cutter = best_cutter(part, near)
            if cutter is None:
                return part
            for rule, outside in parts_cut_off(part, cutter.rules()):
                inside_at, outside_at = len(knots), len(knots) + 1
                knots.extend([None, None])
                knots[at] = ("cut", (rule[0], rule[1], bound_of(rule[2])), inside_at, outside_at)
                waiting.append((outside_at, outside, near))
                at = inside_at
            around = cutter.index
        knots[at] = ("in", around)
    return None


def knots_or_part(grids, others):
    """(roots, knots, None), or (roots, knots, part) with a grid of points that some grid has and all others lack."""
    cutters = cutters_of(others)
    indices = {grid: index for index, grid in reversed(list(enumerate(others)))}
    roots, knots = [], []
    for grid in grids:
        roots.append(len(knots))
        if grid in indices:
            knots.append(("in", indices[grid]))
        else:
            part = part_outside(grid, cutters, knots)
            if part is not None:
                return (roots, knots, part)
    return (roots, knots, None)


def is_behind_or_none(value, at):
    """Whether the value is an integer above the index, or None."""
    return value is None or (is_whole(value) and value > at)


def is_knot(clocks, value, at, many_others):
    """Whether the value has the form of the knot with this index."""
    if not isinstance(value, tuple):
        return False
    if len(value) == 2 and value[0] == "in":
        return is_whole_between(value[1], 0, many_others - 1)
    if len(value) == 4 and value[0] == "cut":
        return (
            is_rule_up_to(clocks, value[1], TOO_GREAT - 1)
            and is_behind_or_none(value[2], at)
            and is_behind_or_none(value[3], at)
        )
    return False


def is_each_told_once(roots, knots):
    """Whether integers tell each knot once: as a root, or in just one cut."""
    indices = list(roots)
    for knot in knots:
        if knot[0] == "cut":
            indices.extend([index for index in knot[2:] if index is not None])
    return sorted(indices) == list(range(len(knots)))


def parts_of(grid, rule):
    """The grid of the points that keep the rule, and that of all others; None in the place of one without points."""
    one, other, bound = rule
    code = code_of(bound)
    return (cut_grid(grid, one, other, code), cut_grid(grid, other, one, opposite_code(code)))


def are_points_within(roots, grids, knots, others):
    """Whether all points of the grids come, cut after cut, to grids that are within others."""
    found = {root: grid for root, grid in zip(roots, grids)}
    for at, knot in enumerate(knots):
        if knot[0] == "in":
            if not is_grid_within(found[at], others[knot[1]]):
                return False
        else:
            for index, part in zip(knot[2:], parts_of(found[at], knot[1])):
                if (index is None) != (part is None):
                    return False
                if part is not None:
                    found[index] = part
    return True


def do_knots_hold(clocks, grids, others, roots, knots):
    """Whether tuples of roots and of knots show that the points of the grids are points of the others."""
    if len(roots) != len(grids) or not all([is_whole(root) for root in roots]):
        return False
    if not all([is_knot(clocks, knot, at, len(others)) for at, knot in enumerate(knots)]):
        return False
    return is_each_told_once(roots, knots) and are_points_within(roots, grids, knots, others)
