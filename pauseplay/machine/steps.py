"""What standings become by waiting and by deeds, and the stretches of pauses for both.

Nothing is checked here: integers have any length.
"""

from pauseplay.base.exact import is_within, lowest_point, point_back, point_later
from pauseplay.base.stretches import lowest_stretch
from pauseplay.lots.spots import stretch_into
from pauseplay.machine.machines import limits_grid, open_grid


def is_rule_kept(point, rule):
    """Whether the point keeps the rule."""
    bottom, values = point
    shown = (0, *values)
    return is_within(rule[2], (shown[rule[0]] - shown[rule[1]], bottom))


def are_rules_kept(point, rules):
    """Whether the point keeps all rules."""
    return all([is_rule_kept(point, rule) for rule in rules])


def lowest_standing(standing):
    """The standing with its point in lowest terms."""
    place, (bottom, values) = standing
    return (place, lowest_point(bottom, values))


def standing_waited(standing, pause):
    """The standing behind the pause, whatever the limits are."""
    return (standing[0], point_later(standing[1], pause))


def standing_behind(machine, standing, deed):
    """The standing behind the deed, whether it is open or not."""
    _, _, goal, _, back = machine.deeds[deed]
    return (goal, point_back(standing[1], back))


def why_not_waited(machine, standing, pause):
    """Why the pause cannot be waited, None if it can."""
    place, point = standing_waited(standing, pause)
    return None if are_rules_kept(point, machine.places[place]) else ("limits",)


def why_not_done(machine, standing, deed):
    """Why the deed is not open, None if it is."""
    _, start, goal, rules, back = machine.deeds[deed]
    place, point = standing
    if place != start:
        return ("start",)
    for index, rule in enumerate(rules):
        if not is_rule_kept(point, rule):
            return ("rules", index)
    return None if are_rules_kept(point_back(point, back), machine.places[goal]) else ("goal",)


def why_not_moved(machine, standing, pause, deed):
    """Why the pause cannot be waited or the deed is not open behind it, None if both can be."""
    reason = why_not_waited(machine, standing, pause)
    return why_not_done(machine, standing_waited(standing, pause), deed) if reason is None else reason


def standing_moved(machine, standing, pause, deed):
    """The standing behind the pause and the deed."""
    return standing_behind(machine, standing_waited(standing, pause), deed)


def stretch_waited(machine, standing):
    """The stretch of the pauses that can be waited, its ends in lowest terms."""
    return lowest_stretch(stretch_into(limits_grid(machine, standing[0]), standing[1]))


def stretch_for(machine, standing, deed):
    """The stretch of the pauses behind which the deed is open, its ends in lowest terms; None if there are none."""
    if machine.deeds[deed][1] != standing[0]:
        return None
    grid = open_grid(machine, deed)
    stretch = None if grid is None else stretch_into(grid, standing[1])
    return None if stretch is None else lowest_stretch(stretch)
