"""Areas: tuples of lots, read as all of their points together."""

from pauseplay.base.points import check_clocks, check_point, is_point
from pauseplay.errors import InvalidArea, InvalidOperation, TooMany
from pauseplay.lots.grids import grid_of, lot_of
from pauseplay.lots.knots import do_knots_hold, knots_or_part
from pauseplay.lots.lots import is_lot
from pauseplay.lots.parts import grids_common, grids_less, thinned_grids
from pauseplay.lots.spots import has_spot, some_spot

MOST_LOTS = 5000

MOST_KNOTS = 4000


def is_area_of_some(value):
    """Whether the value is an area of some number of clocks."""
    if not (isinstance(value, tuple) and len(value) <= MOST_LOTS and all([is_lot(lot) for lot in value])):
        return False
    return all([len(lot) == len(value[0]) for lot in value])


def is_area(clocks, value):
    """Whether the value is an area of so many clocks."""
    check_clocks(clocks)
    return is_area_of_some(value) and (value == () or len(value[0]) == clocks + 1)


def check_area(clocks, value):
    """Raise InvalidNumber unless there can be so many clocks, then InvalidArea unless this is an area of so many."""
    if not is_area(clocks, value):
        raise InvalidArea("an area is a tuple of at most 5000 lots, here of just so many clocks")


def check_some_area(value):
    """Raise InvalidArea unless the value is an area of some number of clocks."""
    if not is_area_of_some(value):
        raise InvalidArea("an area is a tuple of at most 5000 lots of equally many clocks")


def check_areas(one, other):
    """Raise InvalidArea for the first that is no area, then InvalidOperation for unlike numbers of clocks."""
    check_some_area(one)
    check_some_area(other)
    if one and other and len(one[0]) != len(other[0]):
        raise InvalidOperation("the areas have unlike numbers of clocks")


def grids_of(area):
    """The grids of the lots of an area."""
    return [grid_of(lot) for lot in area]


def area_of(grids):
    """The area whose lots have these grids."""
    return tuple([lot_of(grid) for grid in grids])


def is_in_some(lots, point):
    """Whether the point is one of some lot, without a check."""
    return any([has_spot(grid_of(lot), point) for lot in lots])


def area_has(area, point):
    """Whether the point is one of the area's points."""
    check_some_area(area)
    check_point(point)
    if area and len(area[0]) != len(point[1]) + 1:
        raise InvalidOperation("the area and the point have unlike numbers of clocks")
    return is_in_some(area, point)


def common(one, other):
    """An area with just the points that both have; none of its lots is within another one."""
    check_areas(one, other)
    return area_of(grids_common(grids_of(one), grids_of(other)))


def less(one, other):
    """An area with just the points of the one that the other lacks; none of its lots is within another one."""
    check_areas(one, other)
    return area_of(grids_less(grids_of(one), grids_of(other)))


def thinned(area):
    """The lots that are not within another one of the area, of equal ones the first, in their sequence."""
    check_some_area(area)
    return area_of(thinned_grids(grids_of(area)))


def within_or_point(clocks, one, other):
    """("within", roots, knots) if the other area has all points of the one, else ("point", a point that it lacks)."""
    check_area(clocks, one)
    check_area(clocks, other)
    roots, knots, part = knots_or_part(grids_of(one), grids_of(other))
    if part is not None:
        return ("point", some_spot(part))
    if len(knots) > MOST_KNOTS:
        raise TooMany(MOST_KNOTS)
    return ("within", tuple(roots), tuple(knots))


def is_point_outside(clocks, one, other, value):
    """Whether the value is a point that the one area has and the other lacks."""
    return is_point(clocks, value) and is_in_some(one, value) and not is_in_some(other, value)


def is_within_told(clocks, one, other, roots, knots):
    """Whether roots and knots show that the other area has all points of the one."""
    if not (isinstance(roots, tuple) and isinstance(knots, tuple) and len(knots) <= MOST_KNOTS):
        return False
    return do_knots_hold(clocks, grids_of(one), grids_of(other), roots, knots)


def is_within_or_point(clocks, one, other, value):
    """Whether the value is one of those that within_or_point tells."""
    check_area(clocks, one)
    check_area(clocks, other)
    if not isinstance(value, tuple):
        return False
    if len(value) == 2 and value[0] == "point":
        return is_point_outside(clocks, one, other, value[1])
    if len(value) == 3 and value[0] == "within":
        return is_within_told(clocks, one, other, value[1], value[2])
    return False


def are_equal(one, other):
    """Whether both areas have the same points."""
    check_areas(one, other)
    grids, others = grids_of(one), grids_of(other)
    return knots_or_part(grids, others)[2] is None and knots_or_part(others, grids)[2] is None
