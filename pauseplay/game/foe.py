"""The foe's papers: held fields, out of which no goal place is ever come to."""

from pauseplay.base.integers import is_pair
from pauseplay.errors import InvalidField, InvalidOperation, InvalidStanding
from pauseplay.game.answers import does_answer_lead, does_offer_lead, least_deed_into
from pauseplay.game.leads import all_led, all_led_off
from pauseplay.game.own import is_own_paper, paper_of, rows_told
from pauseplay.game.plays import is_offer_there
from pauseplay.game.ranks import Rounds, rank_in
from pauseplay.game.rows import RowedRounds, rows_at
from pauseplay.game.waits import way_grids
from pauseplay.lots.areas import is_in_some
from pauseplay.lots.parts import grids_common
from pauseplay.machine.fields import field_of, is_field, spread_of
from pauseplay.machine.machines import check_machine, check_places
from pauseplay.machine.runs import check_standing, is_standing
from pauseplay.machine.spreads import Layout, rest_of_spread


def foe_paper(machine, goals):
    """The greatest held field."""
    check_machine(machine)
    check_places(machine, goals)
    told = Rounds(Layout(machine), goals)
    while told.go_on():
        pass
    return field_of(rest_of_spread(told.layout, told.won))


def is_held_at(layout, place, spread):
    """Whether no point of the spread at the place can wait past all moments at which the foe leads into the spread."""
    if not spread[place]:
        return True
    ways = way_grids(all_led_off(layout, place, "own", spread), all_led(layout, place, "foe", spread))
    return grids_common(spread[place], ways) == []


def is_foe_paper(machine, goals, value):
    """Whether the value is a held field."""
    check_machine(machine)
    check_places(machine, goals)
    if not is_field(machine, value) or any([value[goal] != () for goal in goals]):
        return False
    layout, spread = Layout(machine), spread_of(value)
    return all([is_held_at(layout, place, spread) for place in range(len(spread))])


def check_answering(machine, goals, field, standing, offer):
    """Raise the error for the first one that is wrong of what answers by a held field are told by."""
    if not is_foe_paper(machine, goals, field):
        raise InvalidField("a held field of this machine for these goals is asked for")
    if not (is_standing(machine, standing) and is_in_some(field[standing[0]], standing[1])):
        raise InvalidStanding("a standing in the held field is asked for")
    if not is_offer_there(machine, standing, offer):
        raise InvalidOperation("an offer at the standing is asked for")


def answer_by(machine, goals, field, standing, offer):
    """The answer of the held field: to let the offer if it stays in the field, else the least deed that does."""
    check_answering(machine, goals, field, standing, offer)
    spread = spread_of(field)
    if does_offer_lead(machine, spread, standing, offer):
        return ("let",)
    return least_deed_into(Layout(machine), spread, standing, offer[0])


def is_answer_by(machine, goals, field, standing, offer, value):
    """Whether the value is an answer to the offer that stays in the held field."""
    check_answering(machine, goals, field, standing, offer)
    return does_answer_lead(machine, spread_of(field), standing, offer, value)


def outcome(machine, goals, standing):
    """("won", an own paper that has the standing), or ("held", a held field that has it)."""
    check_machine(machine)
    check_places(machine, goals)
    check_standing(machine, standing)
    told = RowedRounds(Layout(machine), goals)
    if rank_in(told, standing) is None:
        return ("held", field_of(rest_of_spread(told.layout, told.won)))
    return ("won", paper_of(told.rows))


def does_paper_win(machine, goals, standing, value):
    """Whether the value is an own paper whose paper field has the standing."""
    if not is_own_paper(machine, goals, value):
        return False
    return standing[0] in goals or rows_at(rows_told(value), standing) != []


def does_field_hold(machine, goals, standing, value):
    """Whether the value is a held field that has the standing."""
    return is_foe_paper(machine, goals, value) and is_in_some(value[standing[0]], standing[1])


def is_outcome(machine, goals, standing, value):
    """Whether the value is one of those that outcome tells."""
    check_machine(machine)
    check_places(machine, goals)
    check_standing(machine, standing)
    if not is_pair(value):
        return False
    if value[0] == "won":
        return does_paper_win(machine, goals, standing, value[1])
    return value[0] == "held" and does_field_hold(machine, goals, standing, value[1])
