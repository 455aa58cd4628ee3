"""Rounds: what is won against the foe by so many offers, and what is held."""

from pauseplay.game.leads import all_led, all_led_off
from pauseplay.game.ranks import Rounds, rank_in
from pauseplay.lots.grids import lot_of
from pauseplay.machine.fields import check_field, field_of, spread_of
from pauseplay.machine.machines import check_machine, check_places
from pauseplay.machine.runs import check_standing
from pauseplay.machine.spreads import Layout


def led_into(machine, field):
    """A field of just the standings at which some own deed is open and leads into the field."""
    check_machine(machine)
    check_field(machine, field)
    layout, spread = Layout(machine), spread_of(field)
    return field_of([all_led(layout, place, "own", spread) for place in range(len(spread))])


def led_out(machine, field):
    """A field of just the standings at which some deed of the foe is open and leads out of the field."""
    check_machine(machine)
    check_field(machine, field)
    layout, spread = Layout(machine), spread_of(field)
    return field_of([all_led_off(layout, place, "foe", spread) for place in range(len(spread))])


def field_with(spread, lots):
    """The field of a spread, with lots from a dict that has them by their grids; further ones are put in."""
    for grids in spread:
        for grid in grids:
            if grid not in lots:
                lots[grid] = lot_of(grid)
    return tuple([tuple([lots[grid] for grid in grids]) for grids in spread])


def rounds(machine, goals):
    """The tuple of the fields of the standings won by at most 0, 1, .. offers, up to the last that has further ones."""
    check_machine(machine)
    check_places(machine, goals)
    told = Rounds(Layout(machine), goals)
    # Most lots stand in many rounds, so each one is told once.
    lots = {}
    fields = [field_with(told.won, lots)]
    while told.go_on():
        fields.append(field_with(told.won, lots))
    return tuple(fields)


def won_field(machine, goals):
    """A field of just the standings that are won."""
    check_machine(machine)
    check_places(machine, goals)
    told = Rounds(Layout(machine), goals)
    while told.go_on():
        pass
    return field_of(told.won)


def rank(machine, goals, standing):
    """The number of the first round that has the standing, None if it is held."""
    check_machine(machine)
    check_places(machine, goals)
    check_standing(machine, standing)
    return rank_in(Rounds(Layout(machine), goals), standing)


def won_or_held(machine, goals, standing):
    """("won", the rank of the standing), or ("held", the number of the last round)."""
    check_machine(machine)
    check_places(machine, goals)
    check_standing(machine, standing)
    told = Rounds(Layout(machine), goals)
    found = rank_in(told, standing)
    return ("held", told.gone) if found is None else ("won", found)
