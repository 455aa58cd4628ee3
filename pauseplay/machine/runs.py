"""Standings, and runs: moves one behind the other, each a pause and a deed."""

from pauseplay.base.exact import fractions_added
from pauseplay.base.integers import is_pair, is_whole, is_whole_between
from pauseplay.base.points import check_pause, is_pause, is_point
from pauseplay.errors import InvalidOperation, InvalidStanding, Refused
from pauseplay.machine.machines import check_deed, check_machine
from pauseplay.machine.steps import are_rules_kept, lowest_standing, standing_behind, standing_moved, standing_waited
from pauseplay.machine.steps import stretch_for, stretch_waited, why_not_done, why_not_moved, why_not_waited

MOST_MOVES = 400


def is_standing(machine, value):
    """Whether the value is a place of the machine with a point within its limits."""
    check_machine(machine)
    if not (is_pair(value) and is_whole_between(value[0], 0, len(machine.places) - 1)):
        return False
    place, point = value
    return is_point(machine.clocks, point) and are_rules_kept(point, machine.places[place])


def check_standing(machine, value):
    """Raise InvalidStanding unless the value is a standing of the machine."""
    if not is_standing(machine, value):
        raise InvalidStanding("a standing is a pair of a place and of a point within its limits")


def waited(machine, standing, pause):
    """The standing behind the pause."""
    check_machine(machine)
    check_standing(machine, standing)
    check_pause(pause)
    reason = why_not_waited(machine, standing, pause)
    if reason is not None:
        raise Refused(reason)
    return standing_waited(standing, pause)


def done(machine, standing, deed):
    """The standing behind the deed."""
    check_machine(machine)
    check_standing(machine, standing)
    check_deed(machine, deed)
    reason = why_not_done(machine, standing, deed)
    if reason is not None:
        raise Refused(reason)
    return standing_behind(machine, standing, deed)


def is_move(machine, value):
    """Whether the value is a pair of a pause and of the index of a deed."""
    return is_pair(value) and is_pause(value[0]) and is_whole_between(value[1], 0, len(machine.deeds) - 1)


def are_moves(machine, value):
    """Whether the value is a tuple of at most 400 moves."""
    if not (isinstance(value, tuple) and len(value) <= MOST_MOVES):
        return False
    return all([is_move(machine, move) for move in value])


def run(machine, standing, moves):
    """The tuple of the standing and of those behind each of the moves."""
    check_machine(machine)
    check_standing(machine, standing)
    if not are_moves(machine, moves):
        raise InvalidOperation("the moves are not a tuple of at most 400 pairs of a pause and a deed")
    passed = [lowest_standing(standing)]
    for index, (pause, deed) in enumerate(moves):
        reason = why_not_moved(machine, passed[-1], pause, deed)
        if reason is not None:
            raise Refused(("move", index, reason))
        passed.append(standing_moved(machine, passed[-1], pause, deed))
    return tuple(passed)


def is_timed(value):
    """Whether the value is a pair of a pause and of an integer from 0 on."""
    return is_pair(value) and is_pause(value[0]) and is_whole(value[1]) and value[1] >= 0


def time_of(moves):
    """The sum of the pauses of some moves."""
    if not (isinstance(moves, tuple) and len(moves) <= MOST_MOVES and all([is_timed(move) for move in moves])):
        raise InvalidOperation("the moves are not a tuple of at most 400 pairs of a pause and an integer from 0 on")
    whole = (0, 1)
    for pause, _ in moves:
        whole = fractions_added(whole, pause)
    return whole


def longest(machine, standing):
    """The end of the pauses that can be waited, and 1 if it can be waited itself, else 0; None without an end."""
    check_machine(machine)
    check_standing(machine, standing)
    _, _, greatest, end = stretch_waited(machine, standing)
    return None if greatest is None else (greatest, end)


def pauses_for(machine, standing, deed):
    """The stretch of the pauses that can be waited and behind which the deed is open, None if there are none."""
    check_machine(machine)
    check_standing(machine, standing)
    check_deed(machine, deed)
    return stretch_for(machine, standing, deed)
