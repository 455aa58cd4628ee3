"""Fields: an area for each place of a machine; what is behind and ahead of areas, by waiting and by deeds."""

from pauseplay.errors import InvalidField
from pauseplay.lots.areas import area_of, check_area, grids_of, is_area, is_in_some
from pauseplay.lots.grids import earlier_grid, grid_of, is_grid_within, lot_of
from pauseplay.lots.joins import joined_grids
from pauseplay.machine.machines import check_deed, check_machine, check_place, check_places, limits_grid
from pauseplay.machine.runs import check_standing
from pauseplay.machine.spreads import Layout, grids_ahead_of_deed, grids_behind_deed, grids_behind_wait
from pauseplay.machine.spreads import is_spread_within, met_grids, rest_of_spread


def is_area_within_limits(machine, place, value):
    """Whether the value is an area whose lots are within the limits of the place."""
    if not is_area(machine.clocks, value):
        return False
    limit = limits_grid(machine, place)
    return all([is_grid_within(grid_of(lot), limit) for lot in value])


def is_field(machine, value):
    """Whether the value is a tuple with an area for each place, within its limits."""
    check_machine(machine)
    if not (isinstance(value, tuple) and len(value) == len(machine.places)):
        return False
    return all([is_area_within_limits(machine, place, area) for place, area in enumerate(value)])


def check_field(machine, value):
    """Raise InvalidField unless the value is a field of the machine."""
    if not is_field(machine, value):
        raise InvalidField("a field is a tuple with an area for each place, within its limits")


def spread_of(field):
    """The grids of the lots of a field, a list for each place."""
    return [grids_of(area) for area in field]


def field_of(spread):
    """The field whose lots have these grids."""
    return tuple([area_of(grids) for grids in spread])


def field_has(machine, field, standing):
    """Whether the standing is one of the field."""
    check_machine(machine)
    check_field(machine, field)
    check_standing(machine, standing)
    return is_in_some(field[standing[0]], standing[1])


def behind_wait(machine, place, area):
    """An area with just the points to which one waits from points of the area, within the limits of the place."""
    check_machine(machine)
    check_place(machine, place)
    check_area(machine.clocks, area)
    layout = Layout(machine)
    grids = met_grids(grids_of(area), layout.limits[place])
    return area_of(joined_grids(grids_behind_wait(layout, place, grids)))


def ahead_of_wait(machine, place, area):
    """An area with just the points from which one waits into the area, within the limits of the place."""
    check_machine(machine)
    check_place(machine, place)
    check_area(machine.clocks, area)
    # What is within the limits was within them ahead of each pause.
    grids = met_grids(grids_of(area), limits_grid(machine, place))
    return area_of(joined_grids([earlier_grid(grid) for grid in grids]))


def deed_grids(machine, deed, area, moved):
    """The grids that a function of a layout, a deed and grids tells for an area."""
    layout = Layout(machine)
    return [] if layout.opened[deed] is None else moved(layout, deed, grids_of(area))


def behind_deed(machine, deed, area):
    """An area with just the points to which the deed leads from points of the area, where it is open."""
    check_machine(machine)
    check_deed(machine, deed)
    check_area(machine.clocks, area)
    return area_of(joined_grids(deed_grids(machine, deed, area, grids_behind_deed)))


def ahead_of_deed(machine, deed, area):
    """An area with just the points at which the deed is open, and from which it leads into the area."""
    check_machine(machine)
    check_deed(machine, deed)
    check_area(machine.clocks, area)
    return area_of(joined_grids(deed_grids(machine, deed, area, grids_ahead_of_deed)))


def rest(machine, field):
    """A field with just the standings that the field lacks."""
    check_machine(machine)
    check_field(machine, field)
    return field_of(rest_of_spread(Layout(machine), spread_of(field)))


def joined(machine, one, other):
    """A field with just the standings of both fields."""
    check_machine(machine)
    check_field(machine, one)
    check_field(machine, other)
    return field_of([joined_grids(grids_of(first + second)) for first, second in zip(one, other)])


def are_equal_fields(machine, one, other):
    """Whether both fields have the same standings."""
    check_machine(machine)
    check_field(machine, one)
    check_field(machine, other)
    spread, other_spread = spread_of(one), spread_of(other)
    return is_spread_within(spread, other_spread) and is_spread_within(other_spread, spread)


def is_within_field(machine, one, other):
    """Whether the second field has all standings of the first one."""
    check_machine(machine)
    check_field(machine, one)
    check_field(machine, other)
    return is_spread_within(spread_of(one), spread_of(other))


def places_field(machine, places):
    """The field with all standings at these places, and no others."""
    check_machine(machine)
    check_places(machine, places)
    every = range(len(machine.places))
    return tuple([(lot_of(limits_grid(machine, place)),) if place in places else () for place in every])
