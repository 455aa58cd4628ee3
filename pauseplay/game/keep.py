"""Keeping off bad places for ever: kept fields, and hunts of the foe."""

from pauseplay.base.integers import is_pair
from pauseplay.errors import InvalidField, InvalidOperation, InvalidStanding
from pauseplay.game.answers import does_answer_lead, does_offer_lead, is_in_spread, least_deed_into
from pauseplay.game.hunts import Ground, all_rounds, is_hunt_right, is_spread_kept, safe_grids
from pauseplay.game.leads import all_led_off, grids_led
from pauseplay.game.plays import is_done_by, is_offer_there
from pauseplay.game.waits import is_right, simplest_right
from pauseplay.lots.areas import is_in_some
from pauseplay.lots.spots import stretch_into
from pauseplay.machine.fields import check_field, field_of, is_field, spread_of
from pauseplay.machine.machines import check_machine, check_places
from pauseplay.machine.runs import check_standing, is_standing
from pauseplay.machine.spreads import Layout, deeds_from, rest_of_spread
from pauseplay.machine.steps import standing_moved


def safe_by(machine, bads, field):
    """The field of the standings at other places than the bads that have an offer that is safe by the field."""
    check_machine(machine)
    check_places(machine, bads)
    check_field(machine, field)
    layout, spread = Layout(machine), spread_of(field)
    return field_of([
        [] if place in bads else safe_grids(layout, place, spread) for place in range(len(spread))
    ])


def kept_field(machine, bads):
    """The greatest kept field."""
    check_machine(machine)
    check_places(machine, bads)
    ground = Ground(Layout(machine), bads)
    all_rounds(ground)
    return field_of(rest_of_spread(ground.layout, ground.spread))


def is_kept_field(machine, bads, value):
    """Whether the value is a kept field."""
    check_machine(machine)
    check_places(machine, bads)
    if not is_field(machine, value) or any([value[bad] != () for bad in bads]):
        return False
    return is_spread_kept(Layout(machine), spread_of(value))


def hunt(machine, bads):
    """A hunt with all standings at other places than the bads that the greatest kept field lacks."""
    check_machine(machine)
    check_places(machine, bads)
    return tuple([field_of(spread) for spread in all_rounds(Ground(Layout(machine), bads))])


def is_hunt(machine, bads, value):
    """Whether the value is a hunt."""
    check_machine(machine)
    check_places(machine, bads)
    if not (isinstance(value, tuple) and all([is_field(machine, field) for field in value])):
        return False
    return is_hunt_right(Layout(machine), bads, [spread_of(field) for field in value])


def check_keeping(machine, bads, field, standing):
    """Raise the error for the first one that is wrong of a machine, bads, a kept field and a standing in it."""
    if not is_kept_field(machine, bads, field):
        raise InvalidField("a kept field of this machine for these places is asked for")
    if not (is_standing(machine, standing) and is_in_some(field[standing[0]], standing[1])):
        raise InvalidStanding("a standing in the kept field is asked for")


def is_ever_met(grids, point):
    """Whether the point waits into some of the grids."""
    return any([stretch_into(grid, point) is not None for grid in grids])


def keep_offer(machine, bads, field, standing):
    """None if that is safe by the field, else the simplest pause with the least deed with which one is safe."""
    check_keeping(machine, bads, field, standing)
    layout, spread = Layout(machine), spread_of(field)
    place, point = standing
    met = all_led_off(layout, place, "foe", spread)
    if is_ever_met(met, point):
        for deed in deeds_from(layout, place, ("own",)):
            pause = simplest_right(layout.limits[place], grids_led(layout, deed, spread), met, point)
            if pause is not None:
                return (pause, deed)
    return None


def is_keep_offer(machine, bads, field, standing, value):
    """Whether the value is an offer, or None to wait on, that is safe by the field."""
    check_keeping(machine, bads, field, standing)
    layout, spread = Layout(machine), spread_of(field)
    place, point = standing
    met = all_led_off(layout, place, "foe", spread)
    if value is None:
        return not is_ever_met(met, point)
    if not is_offer_there(machine, standing, value):
        return False
    pause, deed = value
    return is_right(layout.limits[place], grids_led(layout, deed, spread), met, point, pause)


def check_hunt(machine, bads, fields):
    """Raise the error for the first one that is wrong of a machine, bads and a hunt."""
    if not is_hunt(machine, bads, fields):
        raise InvalidOperation("a hunt of this machine for these places is asked for")


def rank_of(bads, fields, standing):
    """0 at one of the bads, else the least number, from 1 on, of a field that has the standing; None without one."""
    place, point = standing
    if place in bads:
        return 0
    for number, field in enumerate(fields, start=1):
        if is_in_some(field[place], point):
            return number
    return None


def hunt_rank(machine, bads, fields, standing):
    """The rank of the standing, None if there is none."""
    check_hunt(machine, bads, fields)
    check_standing(machine, standing)
    return rank_of(bads, fields, standing)


def lesser_spread(layout, bads, fields, number):
    """The spread of all points of a lesser rank than this number from 1 on."""
    ahead = [spread_of(field) for field in fields[:number - 1]]
    return [
        [limit] if place in bads else [grid for spread in ahead for grid in spread[place]]
        for place, limit in enumerate(layout.limits)
    ]


def check_hunting(machine, bads, fields, standing, offer):
    """Raise the error for the first one that is wrong of what answers by a hunt are told by."""
    check_hunt(machine, bads, fields)
    if not (is_standing(machine, standing) and rank_of(bads, fields, standing)):
        raise InvalidStanding("a standing with a rank above 0 is asked for")
    if not (offer is None or is_offer_there(machine, standing, offer)):
        raise InvalidOperation("an offer at the standing is asked for, or None")


def hunt_answer(machine, bads, fields, standing, offer):
    """The answer that leads to a lesser rank: to let the offer if that does, else the least deed that does."""
    check_hunting(machine, bads, fields, standing, offer)
    layout = Layout(machine)
    lesser = lesser_spread(layout, bads, fields, rank_of(bads, fields, standing))
    if offer is None:
        return least_deed_into(layout, lesser, standing, None)
    if does_offer_lead(machine, lesser, standing, offer):
        return ("let",)
    return least_deed_into(layout, lesser, standing, offer[0])


def does_wait_answer_lead(machine, spread, standing, value):
    """Whether the value is an answer to waiting on that leads into the spread."""
    if not (isinstance(value, tuple) and len(value) == 3 and value[0] == "deed"):
        return False
    _, pause, deed = value
    if not is_done_by(machine, standing, "foe", pause, deed):
        return False
    return is_in_spread(spread, standing_moved(machine, standing, pause, deed))


def is_hunt_answer(machine, bads, fields, standing, offer, value):
    """Whether the value is an answer to the offer, or to waiting on, that leads to a lesser rank."""
    check_hunting(machine, bads, fields, standing, offer)
    lesser = lesser_spread(Layout(machine), bads, fields, rank_of(bads, fields, standing))
    if offer is None:
        return does_wait_answer_lead(machine, lesser, standing, value)
    return does_answer_lead(machine, lesser, standing, offer, value)


def kept_or_hunted(machine, bads, standing):
    """("kept", a kept field that has the standing), or ("hunted", a hunt in which it has a rank)."""
    check_machine(machine)
    check_places(machine, bads)
    check_standing(machine, standing)
    ground = Ground(Layout(machine), bads)
    found = []
    while not is_in_spread(ground.spread, standing):
        further = ground.go_on()
        if further is None:
            return ("kept", field_of(rest_of_spread(ground.layout, ground.spread)))
        found.append(field_of(further))
    return ("hunted", tuple(found))


def is_kept_or_hunted(machine, bads, standing, value):
    """Whether the value is one of those that kept_or_hunted tells."""
    check_machine(machine)
    check_places(machine, bads)
    check_standing(machine, standing)
    if not is_pair(value):
        return False
    if value[0] == "kept":
        return is_kept_field(machine, bads, value[1]) and is_in_some(value[1][standing[0]], standing[1])
    if value[0] == "hunted":
        return is_hunt(machine, bads, value[1]) and rank_of(bads, value[1], standing) is not None
    return False
