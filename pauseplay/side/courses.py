"""Courses (moves, rest) of two machines side by side, parted in one of each, and joined. Nothing is checked here."""

from pauseplay.base.exact import fractions_added, lowest_terms, order_of
from pauseplay.machine.steps import standing_moved, why_not_moved, why_not_waited
from pauseplay.side.pairs import triples_of

NO_TIME = (0, 1)


def can_be_gone(machine, standing, course):
    """Whether the moves can be done one behind the other from the standing, and the rest be waited behind them."""
    moves, left = course
    for pause, deed in moves:
        if why_not_moved(machine, standing, pause, deed) is not None:
            return False
        standing = standing_moved(machine, standing, pause, deed)
    return why_not_waited(machine, standing, left) is None


def part_of(course, done):
    """The course of one machine, `done` telling for each deed of both which deed of it is done, None for none."""
    moves, left = course
    found = []
    since = NO_TIME
    for pause, deed in moves:
        since = fractions_added(since, pause)
        if done[deed] is not None:
            found.append((since, done[deed]))
            since = NO_TIME
    return (tuple(found), fractions_added(since, left))


def with_moments(course):
    """The list of pairs of the moment and the deed of each move, and the whole time."""
    moves, left = course
    found = []
    now = NO_TIME
    for pause, deed in moves:
        now = fractions_added(now, pause)
        found.append((now, deed))
    return (found, fractions_added(now, left))


def first_unlike(shared, ones, others):
    """The index of the first shared deeds, pairs of a moment and a deed each, that are no pair; None if all are."""
    for index in range(max(len(ones), len(others))):
        if index >= len(ones) or index >= len(others):
            return index
        (moment, first), (its_moment, last) = ones[index], others[index]
        if (first, last) not in shared or moment != its_moment:
            return index
    return None


def merged(ones, others):
    """An ascending list of triples (moment, a deed of the one, of the other); at one moment the ones are first."""
    found = []
    at = 0
    for moment, deed in ones:
        while at < len(others) and order_of(others[at][0], moment) < 0:
            found.append((others[at][0], None, others[at][1]))
            at += 1
        found.append((moment, deed, None))
    return found + [(moment, None, deed) for moment, deed in others[at:]]


def parts_between(told, deeds):
    """The parts of a list of pairs of a moment and a deed ahead of, between and behind those with these deeds."""
    parts = [[]]
    for moment, deed in told:
        if deed in deeds:
            parts.append([])
        else:
            parts[-1].append((moment, deed))
    return parts


def all_merged(shared, ones, others):
    """A list of triples (moment, a deed of the one, a deed of the other) of courses that fit."""
    firsts, lasts = [first for first, _ in shared], [last for _, last in shared]
    both = [(moment, deed) for moment, deed in ones if deed in firsts]
    last_of = {first: last for first, last in shared}
    parts, its_parts = parts_between(ones, firsts), parts_between(others, lasts)
    found = merged(parts[0], its_parts[0])
    for (moment, deed), part, its_part in zip(both, parts[1:], its_parts[1:]):
        found.append((moment, deed, last_of[deed]))
        found.extend(merged(part, its_part))
    return found


def moves_of(one, other, shared, places, told):
    """The moves of both for triples (moment, deed, deed) from two places, and the moment of the last one."""
    index_of = {triple: index for index, triple in enumerate(triples_of(one, other, shared))}
    here, there = places
    moves = []
    now = NO_TIME
    for moment, first, last in told:
        if last is None:
            triple = (first, None, there)
        elif first is None:
            triple = (None, last, here)
        else:
            triple = (first, last, None)
        moves.append((time_between(now, moment), index_of[triple]))
        now = moment
        here = here if first is None else one.deeds[first][2]
        there = there if last is None else other.deeds[last][2]
    return (tuple(moves), now)


def time_between(early, late):
    """The pause from one moment to another one."""
    return lowest_terms(late[0] * early[1] - early[0] * late[1], early[1] * late[1])


def joined_or_apart(one, other, shared, places, first, last):
    """("joined", the course of both), or ("apart", the reason why the courses do not fit)."""
    ones, whole = with_moments(first)
    others, its_whole = with_moments(last)
    if whole != its_whole:
        return ("apart", ("time",))
    firsts, lasts = [deed for deed, _ in shared], [deed for _, deed in shared]
    unlike = first_unlike(
        shared, [told for told in ones if told[1] in firsts], [told for told in others if told[1] in lasts]
    )
    if unlike is not None:
        return ("apart", ("shared", unlike))
    moves, end = moves_of(one, other, shared, places, all_merged(shared, ones, others))
    return ("joined", (moves, time_between(end, whole)))
