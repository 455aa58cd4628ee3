"""Coming to goal places without a foe: by a run, or not at all, as a closed field shows."""

from pauseplay.base.integers import is_pair, is_whole_between
from pauseplay.errors import InvalidNumber, TooMany
from pauseplay.lots.areas import is_in_some
from pauseplay.machine.comings import Coming, last_of, moves_needed, moves_to_goals
from pauseplay.machine.fields import field_of, is_field, spread_of
from pauseplay.machine.machines import check_machine, check_places
from pauseplay.machine.runs import are_moves, check_standing
from pauseplay.machine.spreads import Layout, is_spread_closed, rest_of_spread
from pauseplay.machine.steps import standing_moved, why_not_moved

MOST_MOVES = 400


def coming(machine, goals):
    """A field of just the standings that come to the goals."""
    check_machine(machine)
    check_places(machine, goals)
    return field_of(last_of(Coming(Layout(machine), goals)))


def coming_within(machine, goals, many):
    """A field of just the standings that come to the goals by at most so many moves."""
    check_machine(machine)
    check_places(machine, goals)
    if not is_whole_between(many, 0, MOST_MOVES):
        raise InvalidNumber(many)
    rounds = Coming(Layout(machine), goals)
    left = many
    while left > 0 and rounds.go_on():
        left -= 1
    return field_of(rounds.found)


def fewest_moves(machine, standing, goals):
    """The least number of moves from the standing to a goal place, None if it comes to none."""
    check_machine(machine)
    check_standing(machine, standing)
    check_places(machine, goals)
    return moves_needed(Coming(Layout(machine), goals), standing)


def run_or_closed(machine, standing, goals):
    """("run", the moves of a run to the goals), or ("closed", a closed field with the standing and without goals)."""
    check_machine(machine)
    check_standing(machine, standing)
    check_places(machine, goals)
    rounds = Coming(Layout(machine), goals)
    many = moves_needed(rounds, standing)
    if many is None:
        return ("closed", field_of(rest_of_spread(rounds.layout, rounds.found)))
    if many > MOST_MOVES:
        raise TooMany(MOST_MOVES)
    return ("run", moves_to_goals(machine, rounds, standing, many))


def is_run_to(machine, standing, goals, value):
    """Whether the value are moves, at most 400, that can be done one behind the other and end at a goal place."""
    if not are_moves(machine, value):
        return False
    for pause, deed in value:
        if why_not_moved(machine, standing, pause, deed) is not None:
            return False
        standing = standing_moved(machine, standing, pause, deed)
    return standing[0] in goals


def is_closed_off(machine, standing, goals, value):
    """Whether the value is a closed field that has the standing, and none at a goal place."""
    if not (is_field(machine, value) and is_in_some(value[standing[0]], standing[1])):
        return False
    return all([value[goal] == () for goal in goals]) and is_spread_closed(Layout(machine), spread_of(value))


def is_run_or_closed(machine, standing, goals, value):
    """Whether the value is a run to the goals, or a closed field that shows that there is none."""
    check_machine(machine)
    check_standing(machine, standing)
    check_places(machine, goals)
    if not is_pair(value):
        return False
    if value[0] == "run":
        return is_run_to(machine, standing, goals, value[1])
    return value[0] == "closed" and is_closed_off(machine, standing, goals, value[1])


def is_closed(machine, value):
    """Whether the value is a closed field."""
    check_machine(machine)
    return is_field(machine, value) and is_spread_closed(Layout(machine), spread_of(value))
