"""[17.1] to [17.6]: machines side by side, their standings and courses, what is won and kept beside another one."""

import unittest
from fractions import Fraction

from pauseplay.errors import InvalidMachine, InvalidOperation, InvalidPlaces, InvalidStanding
from pauseplay.game.keep import is_kept_field, kept_field
from pauseplay.game.won import rank, won_or_held
from pauseplay.lots.lots import lot_or_ring, rules_of
from pauseplay.machine.fields import field_has
from pauseplay.machine.machines import Machine, open_lot
from pauseplay.machine.runs import is_standing, pauses_for, run, time_of, waited
from pauseplay.side.products import bads_beside, deeds_told, goals_beside, joined_course, joined_standing, parted_course
from pauseplay.side.products import parted_standing, side_by_side
from tests.drawn import busy_deed, busy_limits, busy_machine, drawn_standing, looked_at, point_showing, seeded, shown_by
from tests.kinds import GREATEST, LAMP, NOT_MACHINES, NOT_PAIRS, NOT_PAUSES, NOT_PLACES, NOT_STANDINGS, Calls, nested
from tests.plain import grown, is_open_at, keeps_rules, led_to
from tests.plain_games import guarded_machine, pauses_in, rushing_machine
from tests.test_ways import at

LIGHT = Machine(1, ((), ((1, 0, (2, 1)),)), (("own", 0, 1, (), (1,)), ("foe", 1, 0, ((0, 1, (-1, 1)),), ())))

BELL = Machine(1, ((),), (("foe", 0, 0, ((0, 1, (-1, 1)),), (1,)),))

FREE = Machine(0, ((), ()), (("own", 0, 1, (), ()), ("foe", 1, 0, (), ()), ("own", 1, 1, (), ())))


def small_machine(random, clocks, many_places, many_deeds, most=3):
    """A machine with so many places and deeds."""
    places = tuple(busy_limits(random, clocks, most) for _ in range(many_places))
    deeds = tuple(busy_deed(random, clocks, many_places, most, 0.5, False) for _ in range(many_deeds))
    return Machine(clocks, places, deeds)


def drawn_shared(random, one, other):
    """Shared deeds of both machines, perhaps none, perhaps all that can be."""
    wanted, found, used = random.choice((0, 1, 2, 9)), [], set()
    for first in range(len(one.deeds)):
        others = [last for last in range(len(other.deeds)) if other.deeds[last][0] == one.deeds[first][0] and last not in used]
        if others and len(found) < wanted and random.random() < 0.7:
            used.add(random.choice(others))
            found.append((first, max(used - {last for _, last in found})))
    return tuple(found)


def drawn_pairs(name, many):
    """Drawn machines that stand side by side, with shared deeds."""
    random = seeded(name)
    for turn in range(many):
        clocks = ((0, 2), (1, 1), (2, 1), (1, 0), (2, 2), (1, 2), (0, 0), (3, 1))[turn % 8]
        one = small_machine(random, clocks[0], random.randint(1, 3), random.randint(1, 5))
        other = small_machine(random, clocks[1], random.randint(1, 3), random.randint(1, 4))
        shared = drawn_shared(random, one, other)
        if len(one.deeds) * len(other.places) + len(other.deeds) * len(one.places) <= 40:
            yield random, one, other, shared


def drawn_course(random, machine, standing, most=8):
    """Any course from the standing, with equal moments among it."""
    moves = []
    for _ in range(random.randint(0, most)):
        found = [
            (pause, deed) for deed in range(len(machine.deeds))
            for pause in pauses_in(pauses_for(machine, standing, deed) or ((0, 1), 0, (0, 1), 0))
            if pauses_for(machine, standing, deed) is not None
        ]
        if not found:
            break
        moves.append(random.choice(found))
        standing = run(machine, standing, (moves[-1],))[-1]
    pauses = [pause for pause in ((0, 1), (1, 2), (1, 1), (7, 3)) if keeps_rules(grown(tuple(shown_by(standing[1])), Fraction(*pause)), machine.places[standing[0]])]
    return (tuple(moves), random.choice(pauses))


def end_of(machine, standing, course):
    """The standing behind a course."""
    return waited(machine, run(machine, standing, course[0])[-1], course[1])


def whole_time(course):
    return Fraction(*time_of(course[0] + ((course[1], 0),)))


class MachinesTest(Calls, unittest.TestCase):
    def test_parts(self):
        both = side_by_side(LIGHT, BELL, ())
        self.assertEqual((both.clocks, both.places), (2, ((), ((1, 0, (2, 1)),))))
        self.assertEqual(both.deeds, (
            ("own", 0, 1, (), (1,)), ("foe", 1, 0, ((0, 1, (-1, 1)),), ()),
            ("foe", 0, 0, ((0, 2, (-1, 1)),), (2,)), ("foe", 1, 1, ((0, 2, (-1, 1)),), (2,)),
        ))
        both = side_by_side(BELL, LIGHT, ((0, 1),))
        self.assertEqual((both.clocks, both.places), (2, ((), ((2, 0, (2, 1)),))))
        self.assertEqual(both.deeds, (("own", 0, 1, (), (2,)), ("foe", 1, 0, ((0, 1, (-1, 1)), (0, 2, (-1, 1))), (1,))))
        self.assertEqual(deeds_told(BELL, LIGHT, ((0, 1),)), ((None, 0), (0, 1)))
        self.assertEqual(deeds_told(BELL, LIGHT, ()), ((0, None), (0, None), (None, 0), (None, 1)))

    def test_places_and_rules_of_both(self):
        one = Machine(2, (((1, 0, (3, 1)), (2, 0, (4, 0))), ((2, 0, (1, 1)),)), (("own", 1, 0, ((0, 2, (-1, 1)), (1, 0, (2, 0))), (1, 2)),))
        other = Machine(2, ((), ((1, 0, (5, 0)),), ((2, 0, (6, 1)),)), (("own", 2, 1, ((0, 1, (0, 1)), (2, 0, (7, 1))), (2,)),))
        both = side_by_side(one, other, ((0, 0),))
        self.assertEqual(both.places, (
            one.places[0], one.places[0] + ((3, 0, (5, 0)),), one.places[0] + ((4, 0, (6, 1)),),
            one.places[1], one.places[1] + ((3, 0, (5, 0)),), one.places[1] + ((4, 0, (6, 1)),),
        ))
        self.assertEqual(both.deeds, (("own", 5, 1, ((0, 2, (-1, 1)), (0, 3, (0, 1)), (1, 0, (2, 0)), (4, 0, (7, 1))), (1, 2, 4)),))
        both = side_by_side(one, other, ())
        self.assertEqual(both.deeds, (
            ("own", 3, 0, ((0, 2, (-1, 1)), (1, 0, (2, 0))), (1, 2)), ("own", 4, 1, ((0, 2, (-1, 1)), (1, 0, (2, 0))), (1, 2)),
            ("own", 5, 2, ((0, 2, (-1, 1)), (1, 0, (2, 0))), (1, 2)), ("own", 2, 1, ((0, 3, (0, 1)), (4, 0, (7, 1))), (4,)),
            ("own", 5, 4, ((0, 3, (0, 1)), (4, 0, (7, 1))), (4,)),
        ))

    def test_no_clocks_and_one_place(self):
        nothing = Machine(0, ((),), ())
        for machine in (LIGHT, BELL, FREE, LAMP):
            self.assertEqual(side_by_side(machine, nothing, ()), machine)
            self.assertEqual(side_by_side(nothing, machine, ()), machine)
        both = side_by_side(FREE, FREE, ((0, 2), (2, 0)))
        self.assertEqual(both.deeds, (
            ("foe", 2, 0, (), ()), ("foe", 3, 1, (), ()), ("foe", 1, 0, (), ()), ("foe", 3, 2, (), ()), ("own", 1, 3, (), ()), ("own", 2, 3, (), ()),
        ))
        self.assertEqual(deeds_told(FREE, FREE, ((0, 2), (2, 0))), ((1, None), (1, None), (None, 1), (None, 1), (0, 2), (2, 0)))
        # All deeds are shared.
        self.assertEqual(len(side_by_side(FREE, FREE, ((0, 0), (1, 1), (2, 2))).deeds), 3)

    def test_just_what_both_parts_let(self):
        # Deeds are open, and lead, as each part tells.
        found = {True: 0, False: 0}
        for random, one, other, shared in drawn_pairs("both parts", 120):
            both, told, many = side_by_side(one, other, shared), deeds_told(one, other, shared), len(other.places)
            self.assertEqual(len(told), len(both.deeds))
            for deed, (first, last) in enumerate(told):
                place = random.choice((both.deeds[deed][1], random.randrange(len(both.places))))
                points = looked_at(random, both.clocks, [open_lot(both, deed)] if open_lot(both, deed) else [], 5)
                for point in random.sample(points, min(5, len(points))):
                    shown = tuple(shown_by(point))
                    here, there = shown[:one.clocks + 1], shown[:1] + shown[one.clocks + 1:]
                    expected = keeps_rules(here, one.places[place // many]) and keeps_rules(there, other.places[place % many])
                    if first is not None:
                        expected = expected and is_open_at(one, first, place // many, here)
                    if last is not None:
                        expected = expected and is_open_at(other, last, place % many, there)
                    # The part that does nothing stays where the deed of both starts.
                    start = both.deeds[deed][1]
                    expected = expected and (first is not None or start // many == place // many)
                    expected = expected and (last is not None or start % many == place % many)
                    found[expected] += 1
                    self.assertIs(is_open_at(both, deed, place, shown), expected)
                    if expected:
                        goal, now = led_to(both, deed, shown)
                        first_end = (place // many, here) if first is None else led_to(one, first, here)
                        last_end = (place % many, there) if last is None else led_to(other, last, there)
                        self.assertEqual((goal // many, now[:one.clocks + 1]), first_end)
                        self.assertEqual((goal % many, now[:1] + now[one.clocks + 1:]), last_end)
        self.assertGreater(min(found.values()), 100)

    def test_limits_of_both(self):
        def calls(one, other, shared, here, there):
            return (
                (side_by_side, one, other, shared), (deeds_told, one, other, shared), (joined_standing, one, other, here, there),
                (parted_standing, one, other, None), (parted_course, one, other, shared, None, None),
                (joined_course, one, other, shared, here, None, there, None), (goals_beside, one, other, None), (bads_beside, one, other, None, None),
            )

        def machine(clocks, places, deeds):
            return Machine(clocks, ((),) * places, (("own", 0, 0, (), ()),) * deeds), (0, (1, (0,) * clocks))

        for limit, one, other in (
            (4, (2, 1, 0), (3, 1, 0)), (4, (4, 1, 0), (1, 1, 0)), (12, (0, 3, 0), (0, 5, 0)), (12, (2, 4, 0), (2, 4, 0)), (12, (0, 12, 0), (0, 2, 0)),
            (40, (0, 1, 21), (0, 1, 20)), (40, (0, 3, 8), (0, 3, 6)), (40, (0, 12, 37), (0, 1, 1)), (4, (3, 12, 40), (3, 12, 40)), (12, (2, 12, 40), (2, 12, 40)),
        ):
            (one, here), (other, there) = machine(*one), machine(*other)
            for call, *told in calls(one, other, (), here, there):
                self.assert_too_many(limit, call, *told)
        for one, other in (((2, 3, 5), (2, 4, 6)), ((4, 12, 40), (0, 1, 0)), ((0, 1, 20), (0, 1, 20)), ((1, 3, 8), (3, 2, 8)), ((0, 2, 14), (0, 2, 6))):
            (one, _), (other, _) = machine(*one), machine(*other)
            self.assertLessEqual(len(side_by_side(one, other, ()).deeds), 40)
        # With shared ones there are fewer.
        one, other = machine(0, 1, 21)[0], machine(0, 1, 20)[0]
        self.assertEqual(len(side_by_side(one, other, ((0, 0),)).deeds), 40)
        self.assertEqual(len(side_by_side(one, other, tuple((deed, deed) for deed in range(20))).deeds), 21)
        self.assert_refused(InvalidOperation, side_by_side, one, other, ((0, 0), (0, 1)))
        self.assert_refused(InvalidMachine, side_by_side, one, None, ())

    def test_shared_deeds(self):
        owners = Machine(0, ((),), (("own", 0, 0, (), ()), ("foe", 0, 0, (), ()), ("own", 0, 0, (), ()), ("foe", 0, 0, (), ())))
        for shared in ((), ((0, 0),), ((0, 2), (2, 0)), ((1, 3), (2, 2)), ((0, 2), (1, 3), (2, 0), (3, 1))):
            self.assertEqual(side_by_side(owners, owners, shared).clocks, 0)
        for shared in (
            ((0, 1),), ((1, 0),), ((0, 0), (2, 0)), ((0, 0), (0, 2)), ((2, 0), (0, 2)), ((0, 0), (0, 0)), ((4, 0),), ((0, 4),), ((-1, 1),), ((0, -2),),
            ((0,),), ((0, 0, 0),), (0, 0), ([0, 0],), [(0, 0)], None, True, "", {}, {(0, 0): 1}, ((True, 1),), ((1, True),), ((0, None),), (None,), ((0, 0), None),
            nested(20), LAMP, (((0, 0),),), ((0, GREATEST),), ((0, 10 ** 60),),
        ):
            for call in (side_by_side, deeds_told, lambda *told: parted_course(*told, None, None), lambda *told: joined_course(*told, None, None, None, None)):
                self.assert_refused(InvalidOperation, call, owners, owners, shared)
        # A deed that is shared in the place of one of the other machine alone.
        self.assert_refused(InvalidOperation, side_by_side, BELL, LIGHT, ((1, 0),))
        self.assertEqual(len(side_by_side(LIGHT, BELL, ((1, 0),)).deeds), 2)


class StandingsTest(Calls, unittest.TestCase):
    def test_joined_and_parted(self):
        for random, one, other, shared in drawn_pairs("joined", 120):
            here, there = drawn_standing(random, one), drawn_standing(random, other)
            both = joined_standing(one, other, here, there)
            self.assertIs(is_standing(side_by_side(one, other, shared), both), True)
            self.assertEqual(both, (here[0] * len(other.places) + there[0], point_showing(shown_by(here[1])[1:] + shown_by(there[1])[1:])))
            self.assertEqual(parted_standing(one, other, both), (here, there))
            times = (both[1][0] * 6, tuple(value * 6 for value in both[1][1]))
            self.assertEqual(parted_standing(one, other, (both[0], times)), (here, there))

    def test_terms(self):
        self.assertEqual(joined_standing(LIGHT, BELL, (0, (4, (2,))), (0, (9, (6,)))), (0, (6, (3, 4))))
        self.assertEqual(joined_standing(BELL, LIGHT, (0, (9, (6,))), (1, (4, (2,)))), (1, (6, (4, 3))))
        self.assertEqual(parted_standing(LIGHT, BELL, (1, (12, (6, 8)))), ((1, (2, (1,))), (0, (3, (2,)))))
        self.assertEqual(joined_standing(FREE, FREE, (1, (5, ())), (0, (7, ()))), (2, (1, ())))
        long = 10 ** 59
        self.assertEqual(joined_standing(BELL, BELL, (0, (long, (1,))), (0, (long + 1, (1,)))), (0, (long * (long + 1), (long + 1, long))))

    def test_wrong_values(self):
        machine, standing = (LAMP, NOT_MACHINES, InvalidMachine), ((0, (2, (0, 1))), NOT_STANDINGS, InvalidStanding)
        other, there = (BELL, NOT_MACHINES, InvalidMachine), (at(1), (None, at(-1), at(1, 1, 1), (0, (1, (0, 0))), at(True), [0, (1, (0,))]), InvalidStanding)
        of_three = (1, (1, (0, 0, 0)))
        of_both = tuple(value for value in NOT_STANDINGS if value != of_three) + ((0, (2, (0, 1))), (3, (1, (0, 0, 0))), (0, (1, (4, 0, 0))))
        both = ((0, (2, (0, 1, 5))), of_both, InvalidStanding)
        places, its_places = ((1, 2), NOT_PLACES, InvalidPlaces), ((0,), ((1,), (0, 1), (0, 0), [0], None, (True,), (-1,)), InvalidPlaces)
        self.look_at(joined_standing, (machine, other, standing, there))
        self.look_at(parted_standing, (machine, other, both))
        self.look_at(goals_beside, (machine, other, places))
        self.look_at(bads_beside, (machine, other, places, its_places))
        self.look_at(goals_beside, (other, machine, its_places))


class CoursesTest(Calls, unittest.TestCase):
    def test_parted_and_joined_again(self):
        # [17.2], [17.3]
        lengths = []
        for random, one, other, shared in drawn_pairs("courses", 240):
            both, told = side_by_side(one, other, shared), deeds_told(one, other, shared)
            here, there = drawn_standing(random, one), drawn_standing(random, other)
            standing = joined_standing(one, other, here, there)
            course = drawn_course(random, both, standing)
            first, last = parted_course(one, other, shared, standing, course)
            lengths.append(len(course[0]))
            self.assertEqual([deed for _, deed in first[0]], [told[deed][0] for _, deed in course[0] if told[deed][0] is not None])
            self.assertEqual([deed for _, deed in last[0]], [told[deed][1] for _, deed in course[0] if told[deed][1] is not None])
            self.assertEqual((whole_time(first), whole_time(last)), (whole_time(course),) * 2)
            ends = (end_of(one, here, first), end_of(other, there, last))
            self.assertEqual(parted_standing(one, other, end_of(both, standing, course)), ends)
            kind, again = joined_course(one, other, shared, here, first, there, last)
            self.assertEqual(kind, "joined")
            self.assertEqual(parted_course(one, other, shared, standing, again), (first, last))
            self.assertEqual(end_of(both, standing, again), end_of(both, standing, course))
            self.assert_ones_first(told, again)
            self.assertEqual(joined_course(one, other, shared, here, first, there, last), (kind, again))
        self.assertGreater(len([many for many in lengths if many > 4]), 60)

    def assert_ones_first(self, told, course):
        """At one moment, between shared deeds, no deed of the other one alone is ahead of one of the one alone."""
        for (_, deed), (pause, following) in zip(course[0], course[0][1:]):
            if pause == (0, 1):
                self.assertFalse(told[deed][0] is None and told[following][1] is None)

    def test_courses_of_each_that_fit_or_not(self):
        kinds = {}
        for random, one, other, shared in drawn_pairs("apart", 300):
            both = side_by_side(one, other, shared)
            here, there = drawn_standing(random, one), drawn_standing(random, other)
            first, last = drawn_course(random, one, here, 3), drawn_course(random, other, there, 3)
            last = self.with_time(other, there, last, whole_time(first))
            kind, told = joined_course(one, other, shared, here, first, there, last)
            reason = self.reason(shared, first, last)
            kinds[kind, reason and reason[0]] = kinds.get((kind, reason and reason[0]), 0) + 1
            if reason is None:
                self.assertEqual(kind, "joined")
                standing = joined_standing(one, other, here, there)
                parts = parted_course(one, other, shared, standing, told)
                self.assertEqual([self.moments(part) for part in parts], [self.moments(first), self.moments(last)])
                self.assert_ones_first(deeds_told(one, other, shared), told)
                self.assertEqual(end_of(both, standing, told), joined_standing(one, other, end_of(one, here, first), end_of(other, there, last)))
            else:
                self.assertEqual((kind, told), ("apart", reason))
        for kind in (("joined", None), ("apart", "time"), ("apart", "shared")):
            self.assertGreater(kinds[kind], 20)

    def with_time(self, machine, standing, course, time):
        """The course with another rest, so that it takes so long, if that can be."""
        more = time - whole_time((course[0], (0, 1)))
        place, point = run(machine, standing, course[0])[-1]
        if more >= 0 and keeps_rules(grown(tuple(shown_by(point)), more), machine.places[place]):
            return (course[0], (more.numerator, more.denominator))
        return course

    def moments(self, course):
        """The moment and the deed of each move, and the whole time."""
        now, found = Fraction(0), []
        for pause, deed in course[0]:
            now += Fraction(*pause)
            found.append((now, deed))
        return (found, now + Fraction(*course[1]))

    def reason(self, shared, first, last):
        """Why the courses do not fit, None if they do."""
        (ones, whole), (others, its_whole) = self.moments(first), self.moments(last)
        if whole != its_whole:
            return ("time",)
        ones = [told for told in ones if told[1] in dict(shared)]
        others = [told for told in others if told[1] in dict(shared).values()]
        for k in range(max(len(ones), len(others))):
            if k >= min(len(ones), len(others)) or ones[k][0] != others[k][0] or dict(shared)[ones[k][1]] != others[k][1]:
                return ("shared", k)
        return None

    def test_moves_at_one_moment(self):
        # Deeds of the one come first, but not past a shared one.
        knot = Machine(0, ((),), (("own", 0, 0, (), ()), ("own", 0, 0, (), ())))
        here, shared = (0, (1, ())), ((1, 1),)
        first = ((((1, 1), 0), ((0, 1), 1), ((0, 1), 0), ((1, 1), 0)), (0, 1))
        last = ((((0, 1), 0), ((1, 1), 0), ((0, 1), 1), ((0, 1), 0), ((1, 2), 0), ((1, 2), 0)), (0, 1))
        kind, course = joined_course(knot, knot, shared, here, first, here, last)
        # The deeds of both: 0 of the one, 0 of the other one, 1 of both.
        self.assertEqual(deeds_told(knot, knot, shared), ((0, None), (None, 0), (1, 1)))
        self.assertEqual((kind, course), ("joined", (
            (((0, 1), 1), ((1, 1), 0), ((0, 1), 1), ((0, 1), 2), ((0, 1), 0), ((0, 1), 1), ((1, 2), 1), ((1, 2), 0), ((0, 1), 1)), (0, 1),
        )))
        self.assertEqual(joined_course(knot, knot, (), here, (first[0], (1, 3)), here, (last[0], (2, 6)))[0], "joined")
        for rest in ((1, 3), (1, 100)):
            self.assertEqual(joined_course(knot, knot, shared, here, (first[0], rest), here, last), ("apart", ("time",)))
        # The shared one at another moment, another deed in its place, one left over; the time is told ahead of it.
        for moves, reason in (
            ((((1, 2), 1), ((3, 2), 0)), ("shared", 0)), ((((2, 1), 0),), ("shared", 0)), ((((1, 1), 1), ((0, 1), 1), ((1, 1), 0)), ("shared", 1)),
            ((((1, 1), 1), ((1, 1), 1)), ("shared", 1)), ((((1, 2), 1),), ("time",)),
        ):
            self.assertEqual(joined_course(knot, knot, shared, here, first, here, (moves, (0, 1))), ("apart", reason))
        crossed = ((0, 1), (1, 0))
        told = joined_course(knot, knot, crossed, here, ((((1, 1), 0), ((1, 1), 1)), (1, 1)), here, ((((1, 1), 1), ((1, 1), 0)), (1, 1)))
        self.assertEqual(told, ("joined", ((((1, 1), 0), ((1, 1), 1)), (1, 1))))
        told = joined_course(knot, knot, crossed, here, ((((1, 1), 0), ((1, 1), 1)), (1, 1)), here, ((((1, 1), 1), ((1, 1), 1)), (1, 1)))
        self.assertEqual(told, ("apart", ("shared", 1)))

    def test_courses_without_moves(self):
        here, there = at(1, 2), at(2, 3)
        standing = joined_standing(LIGHT, BELL, here, there)
        self.assertEqual(parted_course(LIGHT, BELL, (), standing, ((), (6, 4))), (((), (3, 2)), ((), (3, 2))))
        self.assertEqual(joined_course(LIGHT, BELL, (), here, ((), (6, 4)), there, ((), (3, 2))), ("joined", ((), (3, 2))))
        self.assertEqual(joined_course(LIGHT, BELL, (), here, ((), (0, 1)), there, ((), (1, 2))), ("apart", ("time",)))
        # The pauses of a part add up over deeds of the other one.
        self.assertEqual(
            parted_course(LIGHT, BELL, (), joined_standing(LIGHT, BELL, at(0), at(1)), ((((1, 2), 2), ((2, 2), 2), ((1, 3), 0)), (1, 6))),
            (((((11, 6), 0),), (1, 6)), ((((1, 2), 0), ((1, 1), 0)), (1, 2))),
        )

    def test_400_moves_and_more(self):
        knot = Machine(0, ((),), (("own", 0, 0, (), ()), ("own", 0, 0, (), ())))
        here = (0, (1, ()))

        def course(many, deed):
            return ((((1, 7), deed),) * many, (0, 1))

        kind, told = joined_course(knot, knot, (), here, course(200, 0), here, course(200, 1))
        self.assertEqual((kind, len(told[0])), ("joined", 400))
        self.assertEqual(parted_course(knot, knot, (), here, told), (course(200, 0), course(200, 1)))
        kind, told = joined_course(knot, knot, ((0, 1),), here, course(200, 0), here, course(200, 1))
        self.assertEqual((kind, len(told[0])), ("joined", 200))
        self.assertEqual(joined_course(knot, knot, (), here, course(400, 0), here, ((), (400, 7)))[0], "joined")
        for first, last in ((course(201, 0), course(200, 1)), (course(400, 0), course(1, 1)), (course(201, 0), course(200, 0)), (((((1, 7), 0),) * 201, (1, 1)), course(200, 1))):
            for shared in ((), ((0, 1),)):
                self.assert_too_many(400, joined_course, knot, knot, shared, here, first, here, last)
        self.assert_refused(InvalidOperation, joined_course, knot, knot, (), here, course(401, 0), here, course(200, 1))
        self.assert_refused(InvalidOperation, joined_course, knot, knot, (), here, course(400, 0), here, course(401, 1))
        self.assert_refused(InvalidOperation, parted_course, knot, knot, (), here, course(401, 0))

    def test_what_is_no_course(self):
        standing = joined_standing(LIGHT, BELL, at(0, 1, 1), at(0))
        good = ((((1, 1), 1), ((0, 1), 0)), (1, 1))
        self.assertEqual(parted_course(LIGHT, BELL, (), standing, good)[1], ((), (2, 1)))
        wrong = [
            None, True, 0, (), "", [], {}, good[0], (good[0],), good + (0,), [*good], (good[0], None), ([*good[0]], (1, 1)), (good[0], (-1, 1)), (good[0], [1, 1]),
            (good[0], (5, 2)), ((((1, 2), 1),), (0, 1)), ((((5, 2), 1),), (0, 1)), ((((1, 1), 0),), (0, 1)), ((((1, 1), 4),), (0, 1)), ((((1, 1), -1),), (0, 1)),
            ((((1, 1), True),), (0, 1)), ((((1, 1), 1, 1),), (0, 1)), ((None,), (0, 1)), LAMP, nested(20),
        ] + [(good[0], pause) for pause in NOT_PAUSES] + [(((pause, 1),), (0, 1)) for pause in NOT_PAUSES] + list(NOT_PAIRS)
        for value in wrong:
            self.assert_refused(InvalidOperation, parted_course, LIGHT, BELL, (), standing, value)
            self.assert_refused(InvalidOperation, joined_course, LIGHT, BELL, (), at(0, 1, 1), value, at(0), ((), (2, 1)))
            self.assert_refused(InvalidOperation, joined_course, LIGHT, BELL, (), at(0, 1, 1), value, None, None)
            self.assert_refused(InvalidOperation, joined_course, BELL, LIGHT, (), at(0), ((), (2, 1)), at(0, 1, 1), value)
        self.assert_refused(InvalidStanding, parted_course, LIGHT, BELL, (), at(0), None)
        self.assert_refused(InvalidStanding, joined_course, LIGHT, BELL, (), at(3, 1, 1), None, None, None)
        self.assert_refused(InvalidStanding, joined_course, LIGHT, BELL, (), at(0, 1, 1), ((), (2, 1)), at(0, 1, 1), None)


class BesideTest(unittest.TestCase):
    def test_places(self):
        three = Machine(0, ((),) * 3, ())
        self.assertEqual([goals_beside(three, FREE, goals) for goals in ((), (0,), (1, 2), (0, 1, 2))], [(), (0, 1), (2, 3, 4, 5), (0, 1, 2, 3, 4, 5)])
        self.assertEqual(bads_beside(three, FREE, (), ()), ())
        self.assertEqual(bads_beside(three, FREE, (1,), ()), (2, 3))
        self.assertEqual(bads_beside(three, FREE, (), (1,)), (1, 3, 5))
        self.assertEqual(bads_beside(three, FREE, (1,), (0,)), (0, 2, 3, 4))
        self.assertEqual(bads_beside(FREE, three, (1,), (0, 2)), (0, 2, 3, 4, 5))

    def test_won_beside_another_one(self):
        # [17.4]
        random = seeded("won beside")
        found = {True: 0, False: 0}
        for turn in range(60):
            one = rushing_machine(random, random.randint(1, 2), 2) if turn % 2 else busy_machine(random, 1, 2, False, (0.6, 0.8))
            deeds = tuple(("own", *busy_deed(random, 1, 2, 2, 1.0, False)[1:]) for _ in range(random.randint(0, 3)))
            other = Machine(1, ((), ()), deeds)
            if len(one.deeds) * 2 + len(deeds) * len(one.places) > 40:
                continue
            goals = (len(one.places) - 1,)
            both, its_goals = side_by_side(one, other, ()), goals_beside(one, other, goals)
            for _ in range(8):
                here, there = drawn_standing(random, one), drawn_standing(random, other)
                told = rank(one, goals, here)
                found[told is not None and told > 0] += 1
                self.assertIs(rank(both, its_goals, joined_standing(one, other, here, there)) is None, told is None)
        self.assertGreater(min(found.values()), 80)

    def test_kept_beside_another_one(self):
        # [17.5]
        random = seeded("kept beside")
        found = 0
        for _ in range(60):
            one, other = guarded_machine(random, 1, 2), guarded_machine(random, 1, 2)
            if len(one.places) * len(other.places) > 12 or len(one.deeds) * len(other.places) + len(other.deeds) * len(one.places) > 40:
                continue
            bads, others = (len(one.places) - 1,), (len(other.places) - 1,)
            kept, its_kept = kept_field(one, bads), kept_field(other, others)
            both, all_bads = side_by_side(one, other, ()), bads_beside(one, other, bads, others)
            field = kept_field(both, all_bads)
            for _ in range(12):
                here, there = drawn_standing(random, one), drawn_standing(random, other)
                if field_has(one, kept, here) and field_has(other, its_kept, there):
                    found += 1
                    self.assertIs(field_has(both, field, joined_standing(one, other, here, there)), True)
            # The field of both parts together is kept itself.
            parts = tuple(
                tuple(self.both_lots(first, last) for first in area for last in its_area) for area in kept for its_area in its_kept
            )
            self.assertIs(is_kept_field(both, all_bads, parts), True)
        self.assertGreater(found, 30)

    def both_lots(self, first, last):
        """The lot of all points with a part in each of two lots of one clock."""
        rules = rules_of(first) + tuple((i * 2, j * 2, bound) for i, j, bound in rules_of(last))
        return lot_or_ring(2, rules)[1]


class NotTrueTest(unittest.TestCase):
    """[17.6]"""

    def test_what_is_kept_off_in_both_need_not_be_kept_off_in_each(self):
        # The one alone is led off by the foe at 1; beside the other one the deed is shared, and that one never does it.
        one = Machine(1, ((), ()), (("foe", 0, 1, ((0, 1, (-1, 1)),), ()),))
        other = Machine(0, ((), ()), (("foe", 1, 0, (), ()),))
        both = side_by_side(one, other, ((0, 0),))
        self.assertIs(field_has(both, kept_field(both, goals_beside(one, other, (1,))), (0, (1, (0,)))), True)
        self.assertIs(field_has(one, kept_field(one, (1,)), at(0)), False)

    def test_what_is_won_in_the_one_need_not_be_won_beside_another_one(self):
        one = Machine(1, ((), ()), (("own", 0, 1, ((0, 1, (-2, 1)),), ()),))
        self.assertEqual(won_or_held(one, (1,), at(0)), ("won", 1))
        # One with limits that end earlier, one whose foe goes on for ever.
        for other in (Machine(1, (((1, 0, (1, 1)),),), ()), Machine(0, ((),), (("foe", 0, 0, (), ()),))):
            both = side_by_side(one, other, ())
            begin = joined_standing(one, other, at(0), (0, (1, (0,) * other.clocks)))
            self.assertEqual(won_or_held(both, goals_beside(one, other, (1,)), begin)[0], "held")

    def test_courses_of_one_whole_time_need_not_fit(self):
        told = joined_course(LIGHT, BELL, ((1, 0),), at(1, 1, 1), ((), (1, 1)), at(1), ((((0, 1), 0),), (1, 1)))
        self.assertEqual(told, ("apart", ("shared", 0)))


if __name__ == "__main__":
    unittest.main()
