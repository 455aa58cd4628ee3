"""Machines: clocks, places with limits, and deeds that lead from place to place."""

from pauseplay.base.integers import is_ascending, is_whole, is_whole_between
from pauseplay.base.points import MOST_CLOCKS
from pauseplay.errors import InvalidMachine, InvalidNumber, InvalidOperation, InvalidPlaces
from pauseplay.lots.grids import kept_grid, lot_of
from pauseplay.lots.lots import is_rule

MOST_PLACES = 12

MOST_DEEDS = 40

MOST_NUMBER = 20

OWNERS = ("own", "foe")


def is_from_above(clocks, value):
    """Whether the value is a rule (i, 0, (k, e)), k from 0 to 20."""
    return is_rule(clocks, value) and value[1] == 0 and 0 <= value[2][0] <= MOST_NUMBER


def is_from_below(clocks, value):
    """Whether the value is a rule (0, i, (-k, e)), k from 0 to 20."""
    return is_rule(clocks, value) and value[0] == 0 and 0 <= -value[2][0] <= MOST_NUMBER


def are_sides_ascending(rules):
    """Whether rules ascend, none bounding what another one bounds from the same side."""
    sides = [(rule[0], rule[1]) for rule in rules]
    return all([side < following for side, following in zip(sides, sides[1:])])


def is_place(clocks, value):
    """Whether the value is a tuple of limits: no clock is kept from being at nought."""
    if not (isinstance(value, tuple) and all([is_from_above(clocks, rule) for rule in value])):
        return False
    return are_sides_ascending(value) and all([rule[2] != (0, 0) for rule in value])


def are_rules_of_deed(clocks, value):
    """Whether the value is a tuple of rules as a deed has them."""
    if not isinstance(value, tuple):
        return False
    if not all([is_from_above(clocks, rule) or is_from_below(clocks, rule) for rule in value]):
        return False
    return are_sides_ascending(value)


def wrong_part(clocks, many_places, value):
    """The name of the first part of a deed that is wrong, None for a deed."""
    if not (isinstance(value, tuple) and len(value) == 5):
        return "deed"
    owner, start, goal, rules, back = value
    if owner not in OWNERS:
        return "owner"
    if not is_whole_between(start, 0, many_places - 1):
        return "start"
    if not is_whole_between(goal, 0, many_places - 1):
        return "goal"
    if not are_rules_of_deed(clocks, rules):
        return "rules"
    return None if is_ascending(back, 1, clocks) else "back"


def machine_fault(clocks, places, deeds):
    """The first fault of what is to be a machine, None if there is none."""
    if not is_whole_between(clocks, 0, MOST_CLOCKS):
        return ("clocks",)
    if not (isinstance(places, tuple) and 1 <= len(places) <= MOST_PLACES):
        return ("places",)
    if not (isinstance(deeds, tuple) and len(deeds) <= MOST_DEEDS):
        return ("deeds",)
    for index, place in enumerate(places):
        if not is_place(clocks, place):
            return ("place", index)
    for index, deed in enumerate(deeds):
        part = wrong_part(clocks, len(places), deed)
        if part is not None:
            return ("deed", index, part)
    return None


def greatest_number(places, deeds):
    """The greatest k of all limits and rules, 0 if there is none."""
    rules = [rule for place in places for rule in place] + [rule for deed in deeds for rule in deed[3]]
    return max([abs(rule[2][0]) for rule in rules], default=0)


class Machine:
    """A machine, which never changes."""

    def __init__(self, clocks, places, deeds):
        fault = machine_fault(clocks, places, deeds)
        if fault is not None:
            raise InvalidMachine(f"this is no machine, the first fault is {fault}")
        self._clocks = clocks
        self._places = places
        self._deeds = deeds
        self._most = greatest_number(places, deeds)

    @property
    def clocks(self):
        """How many clocks there are."""
        return self._clocks

    @property
    def places(self):
        """The tuple of places: of tuples of limits."""
        return self._places

    @property
    def deeds(self):
        """The tuple of deeds."""
        return self._deeds

    @property
    def most(self):
        """The greatest number of all limits and rules, 0 if there is none."""
        return self._most

    def __eq__(self, other):
        return (
            isinstance(other, Machine)
            and self._clocks == other._clocks
            and self._places == other._places
            and self._deeds == other._deeds
        )

    def __str__(self):
        return f"machine of {self._clocks} clocks, {len(self._places)} places, {len(self._deeds)} deeds"


def check_machine(value):
    """Raise InvalidMachine unless the value is a machine."""
    if not isinstance(value, Machine):
        raise InvalidMachine("a Machine is asked for")


def check_place(machine, place):
    """Raise InvalidNumber unless this is the index of a place."""
    if not is_whole_between(place, 0, len(machine.places) - 1):
        raise InvalidNumber(place)


def check_deed(machine, deed):
    """Raise InvalidNumber unless this is the index of a deed."""
    if not is_whole_between(deed, 0, len(machine.deeds) - 1):
        raise InvalidNumber(deed)


def check_places(machine, value):
    """Raise InvalidPlaces unless the value is an ascending tuple of indices of places, perhaps ()."""
    if not is_ascending(value, 0, len(machine.places) - 1):
        raise InvalidPlaces("an ascending tuple of indices of places is asked for")


def limits_grid(machine, place):
    """The grid of the points within the limits of the place, without a check."""
    return kept_grid(machine.clocks, machine.places[place])


def open_grid(machine, deed):
    """The grid of the points at which the deed is open, None if there are none, without a check.

    Clocks that are set back keep all limits, so the goal's limits are asked of the others only.
    """
    _, start, goal, rules, back = machine.deeds[deed]
    asked_ahead = tuple([rule for rule in machine.places[goal] if rule[0] not in back])
    return kept_grid(machine.clocks, machine.places[start] + rules + asked_ahead)


def limits(machine, place):
    """The lot of the points within the limits of the place."""
    check_machine(machine)
    check_place(machine, place)
    return lot_of(limits_grid(machine, place))


def open_lot(machine, deed):
    """The lot of the points at which the deed is open, None if there are none."""
    check_machine(machine)
    check_deed(machine, deed)
    grid = open_grid(machine, deed)
    return None if grid is None else lot_of(grid)


def deeds_at(machine, place, owner):
    """The ascending tuple of the indices of the owner's deeds that start at the place."""
    check_machine(machine)
    check_place(machine, place)
    if owner not in OWNERS:
        raise InvalidOperation("an owner is own or foe")
    return tuple([index for index, deed in enumerate(machine.deeds) if deed[0] == owner and deed[1] == place])


def is_order(value, many):
    """Whether the value is a tuple that tells each index below so many once."""
    if not (isinstance(value, tuple) and all([is_whole(index) for index in value])):
        return False
    return sorted(value) == list(range(many))


def placed(machine, order):
    """The machine whose place i is the place order[i]."""
    check_machine(machine)
    if not is_order(order, len(machine.places)):
        raise InvalidPlaces("a tuple that tells each index of a place once is asked for")
    told_anew = {index: at for at, index in enumerate(order)}
    places = tuple([machine.places[index] for index in order])
    deeds = tuple([
        (owner, told_anew[start], told_anew[goal], rules, back) for owner, start, goal, rules, back in machine.deeds
    ])
    return Machine(machine.clocks, places, deeds)


def without_deed(machine, deed):
    """The machine without this deed; later ones go down."""
    check_machine(machine)
    check_deed(machine, deed)
    return Machine(machine.clocks, machine.places, machine.deeds[:deed] + machine.deeds[deed + 1:])
