"""Where deeds lead into a spread, or out of it. Nothing is checked here."""

from pauseplay.lots.joins import joined_grids
from pauseplay.lots.parts import grids_less
from pauseplay.machine.spreads import deeds_from, grids_ahead_of_deed


def grids_led(layout, deed, spread):
    """Grids of the points at which the deed is open and leads into the spread."""
    return grids_ahead_of_deed(layout, deed, spread[layout.all_deeds[deed][2]])


def grids_led_off(layout, deed, spread):
    """Grids of the points at which the deed is open and leads to a point that the spread lacks."""
    return grids_less([layout.opened[deed]], grids_led(layout, deed, spread))


def all_led(layout, place, owner, spread):
    """Grids of the points at the place at which some deed of the owner is open and leads into the spread."""
    deeds = deeds_from(layout, place, (owner,))
    return joined_grids([grid for deed in deeds for grid in grids_led(layout, deed, spread)])


def all_led_off(layout, place, owner, spread):
    """Grids of the points at the place at which some deed of the owner is open and leads out of the spread."""
    deeds = deeds_from(layout, place, (owner,))
    return joined_grids([grid for deed in deeds for grid in grids_led_off(layout, deed, spread)])
