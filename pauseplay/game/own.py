"""Own papers: rows that show how to come to goal places, whatever the foe answers."""

from pauseplay.base.integers import is_pair, is_whole_between
from pauseplay.base.points import is_pause
from pauseplay.errors import InvalidOperation
from pauseplay.game.rows import RowedRounds, are_rows_right, bads_of_row, rows_at
from pauseplay.game.waits import is_right, simplest_right
from pauseplay.lots.grids import grid_of, is_grid_within, lot_of
from pauseplay.lots.joins import joined_grids
from pauseplay.lots.lots import is_lot
from pauseplay.machine.fields import field_of
from pauseplay.machine.machines import check_machine, check_places
from pauseplay.machine.runs import check_standing
from pauseplay.machine.spreads import Layout


def paper_of(rows):
    """The paper with these rows, grids being told as lots."""
    return tuple([(place, lot_of(grid), deed, lot_of(target)) for place, grid, deed, target in rows])


def rows_told(paper):
    """The rows of a paper, lots being told as grids."""
    return [(place, grid_of(lot), deed, grid_of(target)) for place, lot, deed, target in paper]


def own_paper(machine, goals):
    """An own paper whose paper field is the won field."""
    check_machine(machine)
    check_places(machine, goals)
    told = RowedRounds(Layout(machine), goals)
    while told.go_on():
        pass
    return paper_of(told.rows)


def is_lot_of(machine, value):
    """Whether the value is a lot of as many clocks as the machine has."""
    return is_lot(value) and len(value) == machine.clocks + 1


def is_own_deed_from(machine, place, value):
    """Whether the value is the index of an own deed that starts at the place."""
    if not is_whole_between(value, 0, len(machine.deeds) - 1):
        return False
    return machine.deeds[value][:2] == ("own", place)


def is_row_told(machine, layout, goals, value):
    """Whether the value has the form of a row: no goal place, a lot within its limits, an own deed, and a lot."""
    if not (isinstance(value, tuple) and len(value) == 4):
        return False
    place, lot, deed, target = value
    if not is_whole_between(place, 0, len(machine.places) - 1) or place in goals:
        return False
    if not (is_lot_of(machine, lot) and is_grid_within(grid_of(lot), layout.limits[place])):
        return False
    return is_own_deed_from(machine, place, deed) and is_lot_of(machine, target)


def is_own_paper(machine, goals, value):
    """Whether the value is an own paper, whatever its paper field has."""
    check_machine(machine)
    check_places(machine, goals)
    layout = Layout(machine)
    if not (isinstance(value, tuple) and all([is_row_told(machine, layout, goals, row) for row in value])):
        return False
    return are_rows_right(layout, goals, rows_told(value))


def check_paper(machine, goals, paper):
    """Raise the error for the first one that is wrong of a machine, goals and an own paper."""
    if not is_own_paper(machine, goals, paper):
        raise InvalidOperation("an own paper of this machine for these goals is asked for")


def paper_field(machine, goals, paper):
    """The field with all standings at goal places, and the lots of all rows."""
    check_paper(machine, goals, paper)
    layout, rows = Layout(machine), rows_told(paper)
    return field_of([
        [limit] if place in goals else joined_grids([row[1] for row in rows if row[0] == place])
        for place, limit in enumerate(layout.limits)
    ])


def row_at(machine, goals, paper, standing):
    """The index of the first row whose lot has the standing, None if there is none."""
    check_paper(machine, goals, paper)
    check_standing(machine, standing)
    found = rows_at(rows_told(paper), standing)
    return found[0] if found else None


def offer_by(machine, goals, paper, standing):
    """The deed of the row at the standing with the simplest pause that does for it, None if no row is there."""
    check_paper(machine, goals, paper)
    check_standing(machine, standing)
    layout, rows = Layout(machine), rows_told(paper)
    found = rows_at(rows, standing)
    if not found:
        return None
    place, _, deed, target = rows[found[0]]
    bads = bads_of_row(layout, goals, rows, found[0])
    return (simplest_right(layout.limits[place], [target], bads, standing[1]), deed)


def does_pause_do(layout, goals, rows, index, point, pause):
    """Whether the pause leads the point into the target of the row with this index, past all bads of it."""
    place, _, _, target = rows[index]
    return is_right(layout.limits[place], [target], bads_of_row(layout, goals, rows, index), point, pause)


def is_offer_by(machine, goals, paper, standing, value):
    """Whether the value is a pair of a pause that does for some row that has the standing, and of its deed."""
    check_paper(machine, goals, paper)
    check_standing(machine, standing)
    if not (is_pair(value) and is_pause(value[0]) and is_whole_between(value[1], 0, len(machine.deeds) - 1)):
        return False
    pause, deed = value
    layout, rows = Layout(machine), rows_told(paper)
    return any([
        does_pause_do(layout, goals, rows, index, standing[1], pause)
        for index in rows_at(rows, standing) if rows[index][2] == deed
    ])
