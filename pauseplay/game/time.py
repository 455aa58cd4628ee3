"""Coming to goal places within a time: a clock more, the least time, and papers for both."""

from pauseplay.base.exact import lowest_point, lowest_terms, order_of
from pauseplay.base.integers import is_pair, is_whole_between
from pauseplay.base.points import MOST_CLOCKS, check_pause
from pauseplay.errors import InvalidNumber, Refused
from pauseplay.game.foe import does_field_hold, does_paper_win
from pauseplay.game.own import paper_of
from pauseplay.game.ranks import Rounds, rank_in
from pauseplay.game.rows import RowedRounds
from pauseplay.lots.spots import greatest_end, is_kept_among
from pauseplay.machine.fields import field_of
from pauseplay.machine.machines import MOST_DEEDS, MOST_NUMBER, MOST_PLACES, Machine, check_machine, check_places
from pauseplay.machine.runs import check_standing
from pauseplay.machine.spreads import Layout, rest_of_spread


def check_most(most):
    """Raise InvalidNumber unless this is an integer from 0 to 20."""
    if not is_whole_between(most, 0, MOST_NUMBER):
        raise InvalidNumber(most)


def times_done(goals, deed):
    """How many deeds of the timed machine come from a deed."""
    owner, _, goal, _, _ = deed
    return 2 if owner == "foe" and goal in goals else 1


def origins(machine, goals):
    """The list of the indices of the deeds that the deeds of the timed machine come from."""
    return [index for index, deed in enumerate(machine.deeds) for _ in range(times_done(goals, deed))]


def check_room(machine, goals):
    """Raise Refused unless there can be a clock, a place, and some deeds more."""
    if machine.clocks == MOST_CLOCKS:
        raise Refused(("clocks",))
    if len(machine.places) == MOST_PLACES:
        raise Refused(("places",))
    if len(origins(machine, goals)) > MOST_DEEDS:
        raise Refused(("deeds",))


def tighter_rules(rules, further):
    """The rules with further ones put in, ascending; of two for a clock from one side the tighter one."""
    bounds = {}
    for one, other, bound in rules + further:
        if (one, other) not in bounds or bound < bounds[one, other]:
            bounds[one, other] = bound
    return tuple([(one, other, bounds[one, other]) for one, other in sorted(bounds)])


def timed_deeds(machine, goals, most, deed):
    """The list of the deeds of the timed machine that come from a deed."""
    owner, start, goal, rules, back = deed
    if goal not in goals:
        return [deed]
    clock = machine.clocks + 1
    found = [(owner, start, goal, tighter_rules(rules, ((clock, 0, (most, 1)),)), back)]
    if owner == "foe":
        # The late place has no limits, so what the goal's limits let has to be asked by rules.
        asked = tuple([rule for rule in machine.places[goal] if rule[0] not in back])
        too_late = tighter_rules(rules, asked + ((0, clock, (-most, 0)),))
        found.append((owner, start, len(machine.places), too_late, back))
    return found


def timed_machine(machine, goals, most):
    """The machine with a clock more, that nothing sets back, and with a place for being late."""
    deeds = tuple([timed for deed in machine.deeds for timed in timed_deeds(machine, goals, most, deed)])
    return Machine(machine.clocks + 1, machine.places + ((),), deeds)


def standing_timed(standing, passed):
    """The standing with a further clock showing what has passed, in lowest terms."""
    place, (bottom, values) = standing
    shown = [value * passed[1] for value in values] + [passed[0] * bottom]
    return (place, lowest_point(bottom * passed[1], shown))


def with_time(machine, goals, most):
    """The pair of the timed machine and of the goal places."""
    check_machine(machine)
    check_places(machine, goals)
    check_most(most)
    check_room(machine, goals)
    return (timed_machine(machine, goals, most), goals)


def origins_of(machine, goals):
    """The tuple of the index of the deed that each deed of the timed machine comes from."""
    check_machine(machine)
    check_places(machine, goals)
    check_room(machine, goals)
    return tuple(origins(machine, goals))


def timed_standing(machine, goals, standing, most, passed):
    """The standing of the timed machine when so much time has passed."""
    check_machine(machine)
    check_places(machine, goals)
    check_standing(machine, standing)
    check_most(most)
    check_pause(passed)
    check_room(machine, goals)
    return standing_timed(standing, passed)


def check_timing(machine, goals, standing, most):
    """Raise the error for the first one that is wrong of a machine, goals, a standing and a time."""
    check_machine(machine)
    check_places(machine, goals)
    check_standing(machine, standing)
    check_most(most)
    check_room(machine, goals)


def within(machine, goals, standing, most):
    """Whether some way of playing keeps the time."""
    check_timing(machine, goals, standing, most)
    told = Rounds(Layout(timed_machine(machine, goals, most)), goals)
    return rank_in(told, standing_timed(standing, (0, 1))) is not None


def latest_in(grid, point):
    """The end of what the last clock of a grid can show beside a point of the others: (greatest, 1 or 0), or None."""
    bottom, values = point
    last = len(values) + 1
    if not is_kept_among(grid, point, list(range(last))):
        return None
    return greatest_end(list(zip((0, *values), grid[last])), bottom)


def is_end_greater(one, other):
    """Whether the first one of two ends (greatest, 1 or 0) lets more."""
    order = order_of(one[0], other[0])
    return order > 0 or (order == 0 and one[1] > other[1])


def latest_won(machine, goals, standing, most):
    """The end of what the further clock can show at what is won by then, None if it can show nothing."""
    told = Rounds(Layout(timed_machine(machine, goals, most)), goals)
    while told.go_on():
        pass
    latest = None
    for grid in told.won[standing[0]]:
        found = latest_in(grid, standing[1])
        if found is not None and (latest is None or is_end_greater(found, latest)):
            latest = found
    return latest


def least_time(machine, goals, standing, most):
    """The pair of the least time and of 1 if some way keeps it, else 0; None if no way keeps the greatest one."""
    check_timing(machine, goals, standing, most)
    if standing[0] in goals:
        return ((0, 1), 1)
    latest = latest_won(machine, goals, standing, most)
    if latest is None:
        return None
    (top, bottom), end = latest
    return (lowest_terms(most * bottom - top, bottom), end)


def time_paper(machine, goals, standing, most):
    """("in time", an own paper of the timed machine), or ("too late", a foe's paper of it), with the standing at 0."""
    check_timing(machine, goals, standing, most)
    told = RowedRounds(Layout(timed_machine(machine, goals, most)), goals)
    if rank_in(told, standing_timed(standing, (0, 1))) is None:
        return ("too late", field_of(rest_of_spread(told.layout, told.won)))
    return ("in time", paper_of(told.rows))


def is_time_paper(machine, goals, standing, most, value):
    """Whether the value is one of those that time_paper tells."""
    check_timing(machine, goals, standing, most)
    if not is_pair(value):
        return False
    timed, begin = timed_machine(machine, goals, most), standing_timed(standing, (0, 1))
    if value[0] == "in time":
        return does_paper_win(timed, goals, begin, value[1])
    return value[0] == "too late" and does_field_hold(timed, goals, begin, value[1])
