"""Answers of the foe that lead into a spread. Nothing is checked here."""

from pauseplay.base.stretches import shared_stretch, simplest_of
from pauseplay.game.leads import grids_led
from pauseplay.game.plays import is_answer_there, standing_played
from pauseplay.lots.spots import has_spot, stretch_into
from pauseplay.machine.spreads import deeds_from
from pauseplay.machine.steps import standing_moved


def is_in_spread(spread, standing):
    """Whether the standing is one of the spread."""
    place, point = standing
    return any([has_spot(grid, point) for grid in spread[place]])


def does_offer_lead(machine, spread, standing, offer):
    """Whether the offer leads into the spread if it is let."""
    pause, deed = offer
    return is_in_spread(spread, standing_moved(machine, standing, pause, deed))


def does_answer_lead(machine, spread, standing, offer, value):
    """Whether the value is an answer to the offer that leads into the spread."""
    if not is_answer_there(machine, standing, offer, value):
        return False
    return is_in_spread(spread, standing_played(machine, standing, offer, value))


def simplest_led(layout, deed, spread, point, greatest):
    """The simplest pause up to the greatest one, None for no end, at which the deed leads into the spread, or None."""
    let = ((0, 1), 1, greatest, 0 if greatest is None else 1)
    found = [stretch_into(grid, point) for grid in grids_led(layout, deed, spread)]
    shared = [shared_stretch(stretch, let) for stretch in found if stretch is not None]
    return simplest_of([stretch for stretch in shared if stretch is not None])


def least_deed_into(layout, spread, standing, greatest):
    """("deed", pause, deed) with the least deed of the foe that leads into the spread by then, None if none does."""
    for deed in deeds_from(layout, standing[0], ("foe",)):
        pause = simplest_led(layout, deed, spread, standing[1], greatest)
        if pause is not None:
            return ("deed", pause, deed)
    return None
