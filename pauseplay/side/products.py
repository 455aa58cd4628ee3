"""Two machines side by side: the machine of both, its standings, and its courses."""

from pauseplay.base.exact import lowest_point
from pauseplay.base.integers import is_pair, is_whole_between
from pauseplay.base.points import MOST_CLOCKS, is_pause
from pauseplay.errors import InvalidOperation, TooMany
from pauseplay.machine.machines import MOST_DEEDS, MOST_PLACES, check_machine, check_places
from pauseplay.machine.runs import MOST_MOVES, are_moves, check_standing
from pauseplay.side.courses import can_be_gone, joined_or_apart, part_of
from pauseplay.side.pairs import machine_of_both, triples_of


def is_shared_pair(one, other, value):
    """Whether the value is a pair of a deed of the one and of a deed of the other one, with one owner."""
    if not is_pair(value):
        return False
    first, last = value
    if not (is_whole_between(first, 0, len(one.deeds) - 1) and is_whole_between(last, 0, len(other.deeds) - 1)):
        return False
    return one.deeds[first][0] == other.deeds[last][0]


def are_shared(one, other, value):
    """Whether the value is an ascending tuple of such pairs, each deed in one pair at most."""
    if not (isinstance(value, tuple) and all([is_shared_pair(one, other, pair) for pair in value])):
        return False
    if not all([pair[0] < following[0] for pair, following in zip(value, value[1:])]):
        return False
    return len(set([last for _, last in value])) == len(value)


def check_both(one, other, shared):
    """Raise the error for the first one that is wrong of two machines and shared deeds, or for too much of all."""
    check_machine(one)
    check_machine(other)
    if not are_shared(one, other, shared):
        raise InvalidOperation("an ascending tuple of pairs of deeds is asked for, each deed in one of them at most")
    if one.clocks + other.clocks > MOST_CLOCKS:
        raise TooMany(MOST_CLOCKS)
    if len(one.places) * len(other.places) > MOST_PLACES:
        raise TooMany(MOST_PLACES)
    if len(triples_of(one, other, shared)) > MOST_DEEDS:
        raise TooMany(MOST_DEEDS)


def side_by_side(one, other, shared):
    """The machine of both."""
    check_both(one, other, shared)
    return machine_of_both(one, other, shared)


def deeds_told(one, other, shared):
    """The tuple of the pairs of the deeds that are done by each deed of both, None for a machine that does nothing."""
    check_both(one, other, shared)
    return tuple([(first, last) for first, last, _ in triples_of(one, other, shared)])


def standing_of_both(one, other, here, there):
    """The standing of both, in lowest terms."""
    place, (bottom, values) = here
    its_place, (its_bottom, its_values) = there
    shown = [value * its_bottom for value in values] + [value * bottom for value in its_values]
    return (place * len(other.places) + its_place, lowest_point(bottom * its_bottom, shown))


def joined_standing(one, other, here, there):
    """The standing of both machines for one of each."""
    check_both(one, other, ())
    check_standing(one, here)
    check_standing(other, there)
    return standing_of_both(one, other, here, there)


def parted_standing(one, other, standing):
    """The pair of the standings of each machine for one of both."""
    check_both(one, other, ())
    check_standing(machine_of_both(one, other, ()), standing)
    place, (bottom, values) = standing
    here, there = divmod(place, len(other.places))
    first, last = values[:one.clocks], values[one.clocks:]
    return ((here, lowest_point(bottom, first)), (there, lowest_point(bottom, last)))


def is_course(machine, standing, value):
    """Whether the value is a course of at most 400 moves from the standing."""
    if not (is_pair(value) and are_moves(machine, value[0]) and is_pause(value[1])):
        return False
    return can_be_gone(machine, standing, value)


def check_course(machine, standing, value):
    """Raise InvalidOperation unless the value is a course of at most 400 moves from the standing."""
    if not is_course(machine, standing, value):
        raise InvalidOperation("a course, a pair of at most 400 moves and of a pause behind them, is asked for")


def parted_course(one, other, shared, standing, course):
    """The pair of the courses of each machine for one of both."""
    check_both(one, other, shared)
    both = machine_of_both(one, other, shared)
    check_standing(both, standing)
    check_course(both, standing, course)
    told = triples_of(one, other, shared)
    return (part_of(course, [first for first, _, _ in told]), part_of(course, [last for _, last, _ in told]))


def joined_course(one, other, shared, here, first, there, last):
    """("joined", the course of both that is parted in these), or ("apart", the reason why there is none)."""
    check_both(one, other, shared)
    check_standing(one, here)
    check_course(one, here, first)
    check_standing(other, there)
    check_course(other, there, last)
    if len(first[0]) + len(last[0]) > MOST_MOVES:
        raise TooMany(MOST_MOVES)
    return joined_or_apart(one, other, shared, (here[0], there[0]), first, last)


def places_beside(one, other, places, others):
    """The ascending tuple of the places of both with a part of the one, or of the other one, that is told."""
    return tuple([
        place * len(other.places) + its_place
        for place in range(len(one.places))
        for its_place in range(len(other.places))
        if place in places or its_place in others
    ])


def goals_beside(one, other, goals):
    """The ascending tuple of the places of both whose part of the one is one of the goals."""
    check_both(one, other, ())
    check_places(one, goals)
    return places_beside(one, other, goals, ())


def bads_beside(one, other, bads, others):
    """The ascending tuple of the places of both with a part that is one of the bads, or of the others."""
    check_both(one, other, ())
    check_places(one, bads)
    check_places(other, others)
    return places_beside(one, other, bads, others)
