"""[16.1] to [16.5]: timed machines, what is come to in time, the least time, and papers for both."""

import unittest
from fractions import Fraction

from pauseplay.errors import InvalidMachine, InvalidPlaces, InvalidPoint, InvalidStanding
from pauseplay.game.foe import foe_paper
from pauseplay.game.own import is_own_paper, offer_by, own_paper
from pauseplay.game.plays import behind
from pauseplay.game.time import is_time_paper, least_time, origins_of, time_paper, timed_standing, with_time, within
from pauseplay.game.won import won_field, won_or_held
from pauseplay.lots.lots import everything
from pauseplay.machine.machines import Machine
from pauseplay.machine.runs import is_standing, run, time_of
from tests.drawn import REST, busy_machine, crossings, drawn_standing, is_in_some, point_showing, seeded, shown_by
from tests.kinds import GREATEST, Calls, nested
from tests.plain_games import drawn_answer, timed_games
from tests.test_ways import at

# Above 2 one can go to the goal 1, up to 1 the foe can begin anew.
DOOR = Machine(1, (((1, 0, (3, 1)),), ()), (("own", 0, 1, ((0, 1, (-2, 0)),), ()), ("foe", 0, 0, ((1, 0, (1, 1)),), (1,))))

# From 2 on one can go to the goal 1; the foe brings there itself, from 1 to 4, and then one shows at most 3.
LIFT = Machine(
    2, ((), ((1, 0, (3, 1)), (2, 0, (5, 0))), ()),
    (
        ("own", 0, 1, ((0, 1, (-2, 1)),), (2,)), ("foe", 0, 1, ((0, 1, (-1, 1)), (1, 0, (4, 1)), (2, 0, (2, 1))), ()),
        ("own", 0, 2, (), ()), ("foe", 1, 1, ((1, 0, (1, 1)),), (1,)), ("foe", 0, 1, (), (1, 2)),
    ),
)


class TimedMachineTest(Calls, unittest.TestCase):
    def test_parts(self):
        timed, goals = with_time(LIFT, (1,), 7)
        self.assertEqual((timed.clocks, timed.places, goals), (3, LIFT.places + ((),), (1,)))
        in_time, late = (3, 0, (7, 1)), (0, 3, (-7, 0))
        self.assertEqual(timed.deeds, (
            ("own", 0, 1, ((0, 1, (-2, 1)), in_time), (2,)),
            ("foe", 0, 1, ((0, 1, (-1, 1)), (1, 0, (4, 1)), (2, 0, (2, 1)), in_time), ()),
            ("foe", 0, 3, ((0, 1, (-1, 1)), late, (1, 0, (3, 1)), (2, 0, (2, 1))), ()),
            LIFT.deeds[2],
            ("foe", 1, 1, ((1, 0, (1, 1)), in_time), (1,)),
            ("foe", 1, 3, (late, (1, 0, (1, 1)), (2, 0, (5, 0)))[:3], (1,)),
            ("foe", 0, 1, (in_time,), (1, 2)),
            ("foe", 0, 3, (late,), (1, 2)),
        ))
        self.assertEqual(origins_of(LIFT, (1,)), (0, 1, 1, 2, 3, 3, 4, 4))

    def test_goals(self):
        timed, goals = with_time(LIFT, (), 0)
        self.assertEqual((timed.deeds, timed.places, goals), (LIFT.deeds, LIFT.places + ((),), ()))
        self.assertEqual(origins_of(LIFT, ()), (0, 1, 2, 3, 4))
        timed, goals = with_time(LIFT, (0, 2), 20)
        self.assertEqual((timed.deeds, goals), (LIFT.deeds[:2] + (("own", 0, 2, ((3, 0, (20, 1)),), ()),) + LIFT.deeds[3:], (0, 2)))
        timed, _ = with_time(LIFT, (0, 1, 2), 0)
        self.assertEqual(timed.deeds[3:5], (("own", 0, 2, ((3, 0, (0, 1)),), ()), ("foe", 1, 1, ((1, 0, (1, 1)), (3, 0, (0, 1))), (1,))))
        self.assertEqual(timed.deeds[2], ("foe", 0, 3, ((0, 1, (-1, 1)), (0, 3, (0, 0)), (1, 0, (3, 1)), (2, 0, (2, 1))), ()))

    def test_the_tighter_rule(self):
        for rule, limit, expected in (
            ((2, 1), (2, 0), (2, 0)), ((2, 0), (2, 1), (2, 0)), ((3, 0), (2, 1), (2, 1)), ((2, 1), (3, 0), (2, 1)), ((2, 1), (2, 1), (2, 1)),
        ):
            machine = Machine(1, ((), ((1, 0, limit),)), (("foe", 0, 1, ((1, 0, rule),), ()), ("foe", 0, 1, ((1, 0, rule),), (1,))))
            timed, _ = with_time(machine, (1,), 3)
            self.assertEqual(timed.deeds[1], ("foe", 0, 2, ((0, 2, (-3, 0)), (1, 0, expected)), ()))
            self.assertEqual(timed.deeds[3], ("foe", 0, 2, ((0, 2, (-3, 0)), (1, 0, rule)), (1,)))

    def test_no_clocks(self):
        free = Machine(0, ((), ()), (("foe", 0, 1, (), ()), ("own", 0, 1, (), ())))
        timed, _ = with_time(free, (1,), 2)
        self.assertEqual(timed.deeds, (
            ("foe", 0, 1, ((1, 0, (2, 1)),), ()), ("foe", 0, 2, ((0, 1, (-2, 0)),), ()), ("own", 0, 1, ((1, 0, (2, 1)),), ()),
        ))
        self.assertEqual(timed_standing(free, (1,), (0, (7, ())), 2, (6, 4)), (0, (2, (3,))))

    def test_drawn_machines(self):
        random = seeded("with time")
        for turn in range(60):
            machine = busy_machine(random, turn % 4, 5)
            goals = tuple(sorted(random.sample(range(len(machine.places)), random.randint(0, 2))))
            most = random.choice((0, 1, 7, 20))
            timed, its_goals = with_time(machine, goals, most)
            origins = origins_of(machine, goals)
            self.assertEqual((its_goals, len(origins)), (goals, len(timed.deeds)))
            self.assertEqual(sorted(origins), list(origins))
            self.assertEqual(sorted(set(origins)), list(range(len(machine.deeds))))
            for deed, index in zip(timed.deeds, origins):
                elder = machine.deeds[index]
                self.assertEqual((deed[0], deed[1], deed[4]), (elder[0], elder[1], elder[4]))
                self.assertEqual(sorted(deed[3]), list(deed[3]))
                self.assertIn(deed[2], (elder[2], len(machine.places)))
                self.assertEqual(origins.count(index), 2 if elder[0] == "foe" and elder[2] in goals else 1)

    def test_standings(self):
        self.assertEqual(timed_standing(DOOR, (1,), (0, (4, (6,))), 5, (0, 3)), (0, (2, (3, 0))))
        self.assertEqual(timed_standing(DOOR, (1,), (0, (2, (3,))), 0, (10, 4)), (0, (2, (3, 5))))
        self.assertEqual(timed_standing(DOOR, (1,), (1, (3, (1,))), 5, (1, 2)), (1, (6, (2, 3))))
        self.assertEqual(timed_standing(LIFT, (), (0, (2, (1, 2))), 5, (GREATEST, 1)), (0, (2, (1, 2, 2 * GREATEST))))
        random = seeded("timed standings")
        for turn in range(60):
            machine = busy_machine(random, turn % 4, 3)
            standing = drawn_standing(random, machine)
            passed = Fraction(random.randint(0, 30), random.randint(1, 6))
            told = timed_standing(machine, (), standing, 3, (passed.numerator * 2, passed.denominator * 2))
            self.assertEqual(told, (standing[0], point_showing(shown_by(standing[1])[1:] + [passed])))
            self.assertIs(is_standing(with_time(machine, (), 3)[0], told), True)

    def test_refusals(self):
        def calls(machine, goals, standing, most=5):
            return (
                (with_time, machine, goals, most), (origins_of, machine, goals), (timed_standing, machine, goals, standing, most, (0, 1)),
                (within, machine, goals, standing, most), (least_time, machine, goals, standing, most),
                (time_paper, machine, goals, standing, most), (is_time_paper, machine, goals, standing, most, None),
            )

        four, twelve = Machine(4, ((), ()), ()), Machine(0, ((),) * 12, ())
        for reason, machine, standing in (
            ("clocks", four, (0, (1, (0, 0, 0, 0)))), ("clocks", Machine(4, ((),) * 12, ()), (0, (1, (0, 0, 0, 0)))), ("places", twelve, (0, (1, ()))),
        ):
            for goals in ((), (1,)):
                for call, *told in calls(machine, goals, standing):
                    self.assert_reason((reason,), call, *told)
        foes, own = ("foe", 0, 1, ((1, 0, (1, 1)),), ()), ("own", 0, 1, (), ())
        for many, others, goals, fits in (
            (20, 0, (1,), True), (21, 0, (1,), False), (40, 0, (0,), True), (40, 0, (), True), (0, 40, (1,), True), (19, 2, (1,), True),
            (1, 39, (1,), False), (1, 38, (1,), True), (1, 38, (0, 1), True), (1, 39, (0,), True),
        ):
            machine = Machine(3, ((),) * 11, (foes,) * many + (own,) * others)
            for call, *told in calls(machine, goals, (0, (1, (0, 0, 0)))):
                if fits:
                    call(*told)
                else:
                    self.assert_reason(("deeds",), call, *told)
        # These come behind all others.
        self.assert_number_refused(21, with_time, four, (), 21)
        self.assert_refused(InvalidPlaces, origins_of, four, (2,))
        self.assert_refused(InvalidStanding, within, four, (), (0, (1, ())), 5)
        self.assert_refused(InvalidPoint, timed_standing, four, (), (0, (1, (0, 0, 0, 0))), 5, (-1, 1))
        self.assert_number_refused(True, least_time, four, (), (0, (1, (0, 0, 0, 0))), True)
        self.assert_refused(InvalidMachine, time_paper, None, (), (0, (1, (0, 0, 0, 0))), 5)


class InTimeTest(unittest.TestCase):
    def test_what_is_won_in_time_is_won(self):
        random = seeded("won in time")
        found = 0
        for machine, goals, most, _, _ in timed_games():
            for standing in [drawn_standing(random, machine) for _ in range(4)]:
                if within(machine, goals, standing, most):
                    found += 1
                    self.assertEqual(won_or_held(machine, goals, standing)[0], "won")
        self.assertGreater(found, 30)

    def test_late_is_no_goal(self):
        timed, goals = with_time(DOOR, (1,), 2)
        self.assertEqual(won_field(timed, goals)[2], ())
        self.assertEqual(won_or_held(timed, goals, (2, (1, (0, 0)))), ("held", 1))

    def test_just_the_times_that_are_kept(self):
        # [16.2], [16.3]: at each time at which something begins or ends, and between each two.
        random = seeded("in time")
        kinds = {}
        for machine, goals, most, plain, ranks in timed_games():
            for standing in self.standings(random, machine, plain):
                told = least_time(machine, goals, standing, most)
                kind = told if told is None else (told[0][1] > 1, told[1])
                kinds[kind] = kinds.get(kind, 0) + 1
                self.assertIs(within(machine, goals, standing, most), told is not None)
                for passed in self.moments(machine, standing, most):
                    expected = plain.key_of(standing, passed) in ranks
                    self.assertIs(told is not None and self.is_kept(told, most - passed), expected, (machine.places, machine.deeds, goals, most, standing, passed))
                    timed, its_goals = with_time(machine, goals, most)
                    then = timed_standing(machine, goals, standing, most, (passed.numerator, passed.denominator))
                    self.assertEqual(won_or_held(timed, its_goals, then)[0], "won" if expected else "held")
        for kind in (None, (False, 0), (False, 1), (True, 0), (True, 1)):
            self.assertGreater(kinds[kind], 5, kind)

    def standings(self, random, machine, plain):
        keys = random.sample(sorted(plain.standings), 2)
        told = [(place, point_showing(plain.standings[place, told][1:-1])) for place, told in keys]
        whole = [(place, (1, tuple(value // bottom for value in values))) for place, (bottom, values) in told]
        early = [
            (place, point_showing([random.choice(REST) for _ in range(machine.clocks)])) for place in range(len(machine.places) - 1)
        ]
        return told + whole + early + [drawn_standing(random, machine)]

    def moments(self, machine, standing, most):
        """Times that have passed, up to the greatest one."""
        rests = {number % 1 for number in shown_by(standing[1])}
        ends = {sign * rest + whole for rest in rests for sign in (1, -1) for whole in range(most + 2)}
        return [passed for passed in crossings(ends) if passed <= most]

    def is_kept(self, told, time):
        least, end = Fraction(*told[0]), told[1]
        return time > least or (time == least and end == 1)

    def test_door(self):
        # From 2 on nobody hinders one; up to 1 the foe can.
        for value, bottom, most, expected in (
            (3, 2, 5, ((1, 2), 0)), (3, 2, 1, ((1, 2), 0)), (3, 2, 0, None), (2, 1, 5, ((0, 1), 0)), (2, 1, 0, None), (5, 2, 5, ((0, 1), 1)),
            (5, 2, 0, ((0, 1), 1)), (3, 1, 20, ((0, 1), 1)), (1, 1, 20, None), (101, 100, 20, ((99, 100), 0)), (101, 100, 1, ((99, 100), 0)),
        ):
            told = least_time(DOOR, (1,), at(value, bottom), most)
            self.assertEqual(told, expected, (value, bottom, most))
            self.assertIs(within(DOOR, (1,), at(value, bottom), most), expected is not None)
        self.assertIs(within(DOOR, (1,), at(100000000001, 10 ** 11), 1), True)
        long = 10 ** 59
        self.assertEqual(least_time(DOOR, (1,), at(2 * long - 1, long), 1), ((1, long), 0))

    def test_goal_places(self):
        for most in (0, 5, 20):
            self.assertEqual(least_time(DOOR, (1,), at(9, 1, 1), most), ((0, 1), 1))
            self.assertEqual(least_time(DOOR, (0, 1), at(1, 2), most), ((0, 1), 1))
            self.assertIsNone(least_time(DOOR, (), at(9, 1, 1), most))
        self.assertIs(within(DOOR, (1,), at(9, 1, 1), 0), True)
        self.assertIs(within(DOOR, (), at(9, 1, 1), 20), False)

    def test_a_deed_of_the_foe_at_the_very_moment_and_too_late(self):
        # One waits up to 4, then the foe alone can bring one there; or one begins anew and goes at 2.
        for most, expected in ((0, None), (1, None), (3, None), (4, ((4, 1), 1)), (20, ((4, 1), 1))):
            machine = Machine(1, ((), ()), (("own", 0, 1, ((0, 1, (-4, 1)),), ()), ("foe", 0, 1, ((0, 1, (-4, 1)),), ())))
            self.assertEqual(least_time(machine, (1,), at(0), most), expected)
        # The foe brings one to the goal too late rather than let one be there in time.
        bell = (("own", 0, 0, ((0, 1, (-2, 1)),), (1,)), ("foe", 0, 1, ((0, 1, (-1, 1)),), ()))
        machine = Machine(1, (((1, 0, (2, 1)),), ()), bell)
        for most in (0, 2, 20):
            self.assertIsNone(least_time(machine, (1,), at(0), most))
        # An offer up to which the foe can come to the goal, whose own deed comes there as well, counts by the later one.
        machine = Machine(1, ((), ()), (("own", 0, 1, ((0, 1, (-3, 1)),), ()), ("foe", 0, 1, ((0, 1, (-1, 1)),), ())))
        self.assertEqual([least_time(machine, (1,), at(0), most) for most in (2, 3, 4)], [None, ((3, 1), 1), ((3, 1), 1)])

    def test_bounds_of_times(self):
        slow = Machine(1, ((), ()), (("own", 0, 1, ((0, 1, (-20, 1)),), ()),))
        self.assertEqual(least_time(slow, (1,), at(0), 20), ((20, 1), 1))
        self.assertIsNone(least_time(slow, (1,), at(0), 19))
        self.assertEqual(least_time(Machine(1, slow.places, (("own", 0, 1, ((0, 1, (-20, 0)),), ()),)), (1,), at(1, 2), 20), ((39, 2), 0))
        self.assertIsNone(least_time(Machine(1, slow.places, (("own", 0, 1, ((0, 1, (-20, 0)),), ()),)), (1,), at(0), 20))
        free = Machine(0, ((), (), ()), (("own", 0, 1, (), ()), ("own", 2, 0, (), ()), ("foe", 2, 0, (), ())))
        self.assertEqual([least_time(free, (1,), (place, (1, ())), 0) for place in (0, 1, 2)], [((0, 1), 1)] * 3)

    def test_several_deeds_and_setting_back(self):
        # Each second one more step; the foe can set one back once.
        steps = Machine(1, ((), (), (), ()), (
            ("own", 0, 1, ((0, 1, (-1, 1)),), (1,)), ("own", 1, 2, ((0, 1, (-1, 0)),), (1,)), ("foe", 1, 3, ((0, 1, (-1, 1)),), (1,)),
            ("own", 3, 2, ((0, 1, (-2, 1)),), ()),
        ))
        self.assertEqual(least_time(steps, (2,), at(0), 20), ((4, 1), 0))
        self.assertEqual(least_time(steps, (2,), at(1, 3), 20), ((11, 3), 0))
        self.assertEqual(least_time(steps, (2,), at(0, 1, 1), 20), ((3, 1), 0))
        self.assertEqual(least_time(steps, (2,), at(1, 3, 3), 20), ((5, 3), 1))
        self.assertIsNone(least_time(steps, (2,), at(0), 4))
        self.assertEqual(least_time(steps, (2,), at(0), 5), ((4, 1), 0))

    def test_the_best_one_of_several_ways(self):
        # By the one deed at 2, as long as the other clock is at most 5, by the other one behind 2, or at 3.
        near = ("own", 0, 1, ((0, 1, (-2, 1)), (2, 0, (5, 1))), ())
        for late, least, its_least in (
            ((0, 1, (-2, 0)), ((2, 1), 1), ((2, 1), 0)), ((0, 1, (-3, 1)), ((2, 1), 1), ((3, 1), 1)), ((0, 1, (-1, 0)), ((1, 1), 0), ((1, 1), 0)),
        ):
            for deeds in ((near, ("own", 0, 1, (late,), ())), (("own", 0, 1, (late,), ()), near)):
                machine = Machine(2, ((), ()), deeds)
                self.assertEqual(least_time(machine, (1,), (0, (1, (0, 0))), 20), least)
                self.assertEqual(least_time(machine, (1,), (0, (1, (0, 3))), 20), least)
                self.assertEqual(least_time(machine, (1,), (0, (1, (0, 4))), 20), its_least)
                self.assertEqual(within(machine, (1,), (0, (1, (0, 0))), 2), True)

    def test_twelve_places_and_four_clocks_when_timed(self):
        deeds = tuple(("own", place, place + 1, ((0, 1 + place % 3, (-1, 1)),), (1 + place % 3,)) for place in range(10))
        machine = Machine(3, ((),) * 11, deeds)
        self.assertEqual(least_time(machine, (10,), (0, (1, (0, 0, 0))), 20), ((4, 1), 1))
        self.assertEqual(least_time(machine, (10,), (0, (2, (0, 1, 0))), 20), ((4, 1), 1))


class PapersTest(unittest.TestCase):
    def test_either_or(self):
        # [16.4]
        random = seeded("time papers")
        found = {"in time": 0, "too late": 0}
        for machine, goals, most, plain, ranks in timed_games():
            timed, its_goals = with_time(machine, goals, most)
            both = (("in time", own_paper(timed, its_goals)), ("too late", foe_paper(timed, its_goals)))
            for _ in range(4):
                standing = drawn_standing(random, machine)
                kind, told = time_paper(machine, goals, standing, most)
                found[kind] += 1
                self.assertEqual(kind, "in time" if plain.key_of(standing, Fraction(0)) in ranks else "too late")
                self.assertIs(is_time_paper(machine, goals, standing, most, (kind, told)), True)
                for value in both:
                    self.assertIs(is_time_paper(machine, goals, standing, most, value), value[0] == kind)
                begin = timed_standing(machine, goals, standing, most, (0, 1))
                if kind == "in time":
                    self.assertIs(is_own_paper(timed, its_goals, told), True)
                    self.assertTrue(standing[0] in goals or any(row[0] == standing[0] and is_in_some((row[1],), begin[1]) for row in told))
                else:
                    self.assertIs(is_in_some(told[begin[0]], begin[1]), True)
        self.assertGreater(min(found.values()), 40)

    def test_values(self):
        timed, goals = with_time(DOOR, (1,), 2)
        paper, field = own_paper(timed, goals), foe_paper(timed, goals)
        for standing, value, expected in (
            (at(3, 2), ("in time", paper), True), (at(3, 2), ("too late", field), False), (at(1), ("too late", field), True), (at(1), ("in time", paper), False),
            (at(5, 1, 1), ("in time", ()), True), (at(5, 1, 1), ("in time", paper), True), (at(3, 2), ("in time", ()), False),
            (at(5, 1, 1), ("too late", ((), (), ())), False), (at(1), ("too late", ((), (), ())), False), (at(1), ("too late", field[:2]), False),
            (at(3, 2), ("In time", paper), False), (at(3, 2), ["in time", paper], False), (at(3, 2), ("in time", paper, 0), False), (at(3, 2), ("won", paper), False),
            (at(1), ("held", field), False), (at(1), ("too late", paper), False), (at(3, 2), ("in time", field), False), (at(3, 2), paper, False),
            (at(3, 2), None, False), (at(3, 2), ("in time",), False), (at(3, 2), ("in time", [*paper]), False), (at(3, 2), (("in time",), paper), False),
            (at(3, 2), nested(20), False), (at(1), ("too late", None), False), (at(1), ("too late", DOOR), False),
        ):
            self.assertIs(is_time_paper(DOOR, (1,), standing, 2, value), expected)
        # The papers of the machine itself, and of other times, are none.
        self.assertIs(is_time_paper(DOOR, (1,), at(3, 2), 2, ("in time", own_paper(DOOR, (1,)))), False)
        self.assertIs(is_time_paper(DOOR, (1,), at(1), 2, ("too late", foe_paper(DOOR, (1,)))), False)
        self.assertIs(is_time_paper(DOOR, (1,), at(3, 2), 0, ("in time", paper)), False)
        self.assertIs(is_time_paper(DOOR, (1,), at(3, 2), 0, ("too late", field)), False)
        self.assertIs(is_time_paper(DOOR, (1,), at(3, 2), 0, ("too late", foe_paper(*with_time(DOOR, (1,), 0)))), True)
        # Late, and shown as late, one has come to no goal.
        late = ((), (), (everything(2),))
        self.assertIs(is_time_paper(DOOR, (1,), at(1), 2, ("too late", late)), False)
        bent = ((field[0][0],) + field[0], field[1], field[2] + (everything(2),))
        self.assertIs(is_time_paper(DOOR, (1,), at(1), 2, ("too late", bent)), True)

    def test_the_clock_has_to_begin_at_nought(self):
        timed, goals = with_time(DOOR, (1,), 2)
        later = (((((0, 1), (-2, 0), (-1, 1)), ((3, 1), (0, 1), (2, 1)), ((2, 1), (0, 0), (0, 1)))),)
        paper = ((0, later[0], 0, later[0]),)
        self.assertIs(is_own_paper(timed, goals, paper), True)
        self.assertIs(is_time_paper(DOOR, (1,), at(5, 2), 2, ("in time", paper)), False)

    def test_plays_keep_the_time(self):
        # [16.2]: the pauses that were done add up to no more, whatever is answered.
        random = seeded("timed plays")
        found = 0
        for machine, goals, most, plain, ranks in timed_games():
            timed, its_goals = with_time(machine, goals, most)
            origins = origins_of(machine, goals)
            for _ in range(5):
                standing = drawn_standing(random, machine)
                kind, paper = time_paper(machine, goals, standing, most)
                if kind == "too late":
                    continue
                now, moves = timed_standing(machine, goals, standing, most, (0, 1)), []
                while now[0] not in goals:
                    offer = offer_by(timed, its_goals, paper, now)
                    answer = drawn_answer(random, timed, now, offer)
                    pause, deed = offer if answer == ("let",) else answer[1:]
                    moves.append((pause, origins[deed]))
                    now = behind(timed, now, offer, answer)
                found += len(moves) > 0
                passed = run(machine, standing, tuple(moves))
                self.assertIn(passed[-1][0], goals)
                whole = time_of(tuple(moves))
                self.assertLessEqual(Fraction(*whole), most)
                self.assertEqual(timed_standing(machine, goals, passed[-1], most, whole), now)
        self.assertGreater(found, 30)


class NotTrueTest(unittest.TestCase):
    """[16.5]"""

    def test_what_is_won_need_not_be_won_within_any_time(self):
        # Each second the foe can begin anew, at most as often as there are rounds; so the whole takes long.
        places = ((),) * 3
        machine = Machine(1, places, (("own", 0, 1, ((0, 1, (-20, 1)),), (1,)), ("own", 1, 2, ((0, 1, (-1, 1)),), ())))
        self.assertEqual(won_or_held(machine, (2,), at(0)), ("won", 2))
        self.assertIsNone(least_time(machine, (2,), at(0), 20))

    def test_a_further_deed_of_the_foe_need_not_make_the_least_time_greater(self):
        further = Machine(1, DOOR.places, DOOR.deeds + (("foe", 0, 0, ((1, 0, (1, 1)),), ()),))
        self.assertEqual(least_time(further, (1,), at(3, 2), 5), least_time(DOOR, (1,), at(3, 2), 5))

    def test_a_least_time_that_no_way_keeps_need_not_be_nought(self):
        self.assertEqual(least_time(DOOR, (1,), at(3, 2), 5), ((1, 2), 0))

    def test_a_whole_least_time_need_not_be_kept(self):
        self.assertEqual(least_time(Machine(1, ((), ()), DOOR.deeds[:1]), (1,), at(1), 5), ((1, 1), 0))


if __name__ == "__main__":
    unittest.main()
