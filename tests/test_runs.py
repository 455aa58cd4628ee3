"""[6.1] to [6.5], and [5.4] once more: standings, waiting, deeds, runs and their time, stretches."""

import unittest
from fractions import Fraction
from itertools import permutations
from math import gcd

from pauseplay.base.points import compare, fraction_sum, later, set_back
from pauseplay.errors import InvalidOperation, Refused
from pauseplay.machine import runs
from pauseplay.machine.machines import Machine, open_lot, placed, without_deed
from pauseplay.machine.runs import done, is_standing, longest, pauses_for, run, time_of, waited
from tests.drawn import busy_machine, drawn_machine, drawn_point, drawn_standing, is_in, keeps_all, point_showing, seeded
from tests.drawn import shown_by
from tests.kinds import GREATEST, TOO_GREAT, Calls
from tests.plain import grown, is_open_at, keeps_rules, led_to, moments

SAND = Machine(
    2, (((1, 0, (3, 1)), (2, 0, (4, 0))), (), ((1, 0, (1, 0)),)),
    (
        ("own", 0, 1, ((0, 1, (-1, 1)), (0, 2, (-2, 0)), (1, 0, (2, 0)), (2, 0, (3, 1))), ()),
        ("foe", 0, 2, ((0, 2, (-2, 1)),), (2,)),
        ("own", 0, 2, ((0, 2, (-2, 1)),), (1,)),
        ("foe", 0, 0, ((0, 1, (-2, 1)), (1, 0, (1, 1))), ()),
    ),
)

FREE = Machine(0, ((), ()), (("own", 0, 1, (), ()), ("foe", 1, 0, (), ())))

# A machine with limits that are come to, are not come to, and none.
ENDS = Machine(1, (((1, 0, (3, 1)),), ((1, 0, (3, 0)),), (), ((1, 0, (0, 1)),)), ())


def fraction_of(number):
    """A fraction of the package for one of Python's."""
    return (number.numerator, number.denominator)


def is_lowest(fraction):
    """Whether a fraction is a pair in lowest terms."""
    return isinstance(fraction, tuple) and fraction[1] >= 1 and gcd(*fraction) == 1


def drawn_standings(name, many, busy=False):
    """Drawn machines, each with a standing."""
    random = seeded(name)
    for turn in range(many):
        machine = busy_machine(random, turn % 5, 4) if busy else drawn_machine(random, turn % 5)
        yield random, machine, drawn_standing(random, machine)


class StandingTest(unittest.TestCase):
    def test_constant(self):
        self.assertEqual(runs.MOST_MOVES, 400)

    def test_points_within_the_limits(self):
        random = seeded("standings")
        kinds = {True: 0, False: 0}
        for _ in range(300):
            machine = drawn_machine(random)
            place, point = random.randrange(len(machine.places)), drawn_point(random, machine.clocks)
            expected = keeps_all(point, machine.places[place])
            kinds[expected] += 1
            self.assertIs(is_standing(machine, (place, point)), expected)
        self.assertGreater(min(kinds.values()), 30)

    def test_ends_of_limits(self):
        for place, value, let in ((0, 6, True), (0, 7, False), (1, 5, True), (1, 6, False), (2, 99, True), (3, 0, True), (3, 1, False)):
            self.assertIs(is_standing(ENDS, (place, (2, (value,)))), let)

    def test_long_numbers(self):
        self.assertIs(is_standing(ENDS, (2, (GREATEST, (GREATEST,)))), True)
        self.assertIs(is_standing(ENDS, (1, (GREATEST // 3, (GREATEST,)))), False)
        self.assertIs(is_standing(ENDS, (0, (GREATEST // 3, (GREATEST,)))), True)
        self.assertIs(is_standing(ENDS, (2, (TOO_GREAT, (1,)))), False)
        self.assertIs(is_standing(ENDS, (2, (1, (TOO_GREAT,)))), False)

    def test_no_clocks_and_four(self):
        self.assertIs(is_standing(FREE, (1, (7, ()))), True)
        self.assertIs(is_standing(FREE, (2, (7, ()))), False)
        self.assertIs(is_standing(FREE, (1, (7, (0,)))), False)
        four = Machine(4, (tuple((clock, 0, (clock, clock % 2)) for clock in (1, 2, 3, 4)),), ())
        self.assertIs(is_standing(four, (0, (2, (2, 3, 6, 7)))), True)
        for values in ((3, 3, 6, 7), (2, 4, 6, 7), (2, 3, 7, 7), (2, 3, 6, 8)):
            self.assertIs(is_standing(four, (0, (2, values))), False)


class WaitedTest(Calls, unittest.TestCase):
    def test_clocks_grow_within_the_limits(self):
        kinds = {True: 0, False: 0}
        for random, machine, at in drawn_standings("waited", 300):
            pause = (random.randint(0, 9), random.choice((1, 2, 3, 4, 6)))
            place, point = at
            let = keeps_all(later(point, pause), machine.places[place])
            kinds[let] += 1
            with self.subTest(places=machine.places, at=at, pause=pause):
                if let:
                    self.assertEqual(waited(machine, at, pause), (place, later(point, pause)))
                else:
                    self.assert_reason(("limits",), waited, machine, at, pause)
        self.assertGreater(min(kinds.values()), 40)

    def test_ends_of_limits(self):
        self.assertEqual(waited(ENDS, (0, (2, (1,))), (5, 2)), (0, (1, (3,))))
        self.assert_reason(("limits",), waited, ENDS, (0, (2, (1,))), (251, 100))
        self.assert_reason(("limits",), waited, ENDS, (1, (2, (1,))), (5, 2))
        self.assertEqual(waited(ENDS, (1, (2, (1,))), (249, 100)), (1, (100, (299,))))
        self.assertEqual(waited(ENDS, (3, (2, (0,))), (0, 5)), (3, (1, (0,))))
        self.assert_reason(("limits",), waited, ENDS, (3, (2, (0,))), (1, GREATEST))

    def test_lowest_terms(self):
        self.assertEqual(waited(ENDS, (2, (6, (4,))), (0, 8)), (2, (3, (2,))))
        self.assertEqual(waited(ENDS, (2, (6, (4,))), (4, 12)), (2, (1, (1,))))
        self.assertEqual(waited(FREE, (1, (9, ())), (7, 3)), (1, (1, ())))

    def test_pauses_add_up(self):
        # [6.1]
        for random, machine, at in drawn_standings("add up", 200):
            one, other = [(random.randint(0, 5), random.choice((1, 2, 3))) for _ in range(2)]
            answers = []
            for pauses in ((one, other), (fraction_sum(one, other),)):
                try:
                    standing = at
                    for pause in pauses:
                        standing = waited(machine, standing, pause)
                    answers.append(standing)
                except Refused as error:
                    answers.append(error.reason)
            self.assertEqual(answers[0], answers[1])

    def test_limits_that_hold_held_all_the_time(self):
        # [6.1]
        for random, machine, at in drawn_standings("held", 100):
            pause = (random.randint(0, 8), 2)
            if keeps_all(later(at[1], pause), machine.places[at[0]]):
                for part in (2, 3, 7):
                    self.assertIs(is_standing(machine, waited(machine, at, (pause[0], pause[1] * part))), True)


class DoneTest(Calls, unittest.TestCase):
    def test_open_deeds_lead_on(self):
        kinds = {}
        for _, machine, at in drawn_standings("done", 600):
            for deed, (_, start, goal, rules, back) in enumerate(machine.deeds):
                broken = [index for index, rule in enumerate(rules) if not keeps_all(at[1], (rule,))]
                reason = None
                if start != at[0]:
                    reason = ("start",)
                elif broken:
                    reason = ("rules", broken[0])
                elif not keeps_all(set_back(at[1], back), machine.places[goal]):
                    reason = ("goal",)
                kinds[reason] = kinds.get(reason, 0) + 1
                with self.subTest(places=machine.places, deed=machine.deeds[deed], at=at):
                    if reason is None:
                        self.assertEqual(done(machine, at, deed), (goal, set_back(at[1], back)))
                        self.assertIs(is_standing(machine, done(machine, at, deed)), True)
                    else:
                        self.assert_reason(reason, done, machine, at, deed)
        for reason in (None, ("start",), ("goal",), ("rules", 0), ("rules", 1)):
            self.assertGreater(kinds[reason], 10, reason)

    def test_the_first_reason(self):
        self.assert_reason(("start",), done, SAND, (1, (1, (0, 0))), 0)
        self.assert_reason(("rules", 0), done, SAND, (0, (1, (0, 0))), 0)
        self.assert_reason(("rules", 1), done, SAND, (0, (1, (1, 2))), 0)
        self.assert_reason(("rules", 2), done, SAND, (0, (1, (2, 3))), 0)
        self.assert_reason(("rules", 3), done, SAND, (0, (2, (3, 7))), 0)
        self.assertEqual(done(SAND, (0, (2, (3, 6))), 0), (1, (2, (3, 6))))

    def test_limits_of_the_goal_behind_setting_back(self):
        # They break for deed 1, which sets the other clock back, and hold for deed 2.
        self.assert_reason(("goal",), done, SAND, (0, (1, (1, 2))), 1)
        self.assertEqual(done(SAND, (0, (1, (1, 2))), 2), (2, (1, (0, 2))))
        self.assertEqual(done(SAND, (0, (8, (7, 16))), 1), (2, (8, (7, 0))))
        self.assert_reason(("rules", 0), done, SAND, (0, (1, (1, 1))), 1)

    def test_lowest_terms_and_no_clocks(self):
        self.assertEqual(done(SAND, (0, (6, (3, 12))), 2), (2, (1, (0, 2))))
        self.assertEqual(done(FREE, (0, (4, ())), 0), (1, (1, ())))
        self.assert_reason(("start",), done, FREE, (1, (4, ())), 0)

    def test_the_same_point_has_the_same_deeds_open(self):
        # [6.2]
        for random, machine, (place, (bottom, values)) in drawn_standings("same", 100):
            times = random.choice((2, 3, 10 ** 9))
            again = (place, (bottom * times, tuple(value * times for value in values)))
            for deed in range(len(machine.deeds)):
                answers = []
                for at in ((place, (bottom, values)), again):
                    try:
                        answers.append(done(machine, at, deed))
                    except Refused as error:
                        answers.append(error.reason)
                self.assertEqual(answers[0], answers[1])


def drawn_moves(random, machine, at, many):
    """Moves that can be done one behind the other, at most so many."""
    moves = []
    for _ in range(many):
        shown = tuple(shown_by(at[1]))
        let = [
            (pause, deed) for pause in moments(machine, shown) for deed in range(len(machine.deeds))
            if keeps_rules(grown(shown, pause), machine.places[at[0]])
            and is_open_at(machine, deed, at[0], grown(shown, pause))
        ]
        if not let:
            break
        pause, deed = random.choice(let)
        moves.append((fraction_of(pause), deed))
        goal, numbers = led_to(machine, deed, grown(shown, pause))
        at = (goal, point_showing(numbers[1:]))
    return tuple(moves)


class RunTest(Calls, unittest.TestCase):
    def test_moves_one_behind_the_other(self):
        found = 0
        for random, machine, at in drawn_standings("runs", 150, busy=True):
            moves = drawn_moves(random, machine, at, 6)
            found += len(moves) > 2
            passed = run(machine, at, moves)
            self.assertEqual(len(passed), len(moves) + 1)
            self.assertEqual(passed[0], waited(machine, at, (0, 1)))
            for (pause, deed), one, other in zip(moves, passed, passed[1:]):
                self.assertEqual(done(machine, waited(machine, one, pause), deed), other)
            self.assertEqual(time_of(moves), fraction_of(sum((Fraction(*pause) for pause, _ in moves), Fraction(0))))
        self.assertGreater(found, 40)

    def test_the_first_move_that_cannot_be_done(self):
        found = 0
        for random, machine, at in drawn_standings("no runs", 150, busy=True):
            moves = drawn_moves(random, machine, at, 5)
            index = random.randint(0, len(moves))
            if not machine.deeds:
                continue
            wrong = ((random.randint(0, 9), 2), random.randrange(len(machine.deeds)))
            told = moves[:index] + (wrong,) + moves[index:]
            before = run(machine, at, moves[:index])[-1]
            try:
                done(machine, waited(machine, before, wrong[0]), wrong[1])
            except Refused as error:
                found += 1
                self.assert_reason(("move", index, error.reason), run, machine, at, told)
        self.assertGreater(found, 60)

    def test_no_moves(self):
        self.assertEqual(run(SAND, (0, (2, (4, 6))), ()), ((0, (1, (2, 3))),))
        self.assertEqual(run(FREE, (0, (2, ())), ()), ((0, (1, ())),))

    def test_four_hundred_moves(self):
        moves = (((1, 2), 0), ((0, 3), 1)) * 200
        self.assertEqual(run(FREE, (0, (1, ())), moves), ((0, (1, ())), (1, (1, ()))) * 200 + ((0, (1, ())),))
        self.assert_refused(InvalidOperation, run, FREE, (0, (1, ())), moves + (((0, 1), 0),))
        self.assert_reason(("move", 399, ("start",)), run, FREE, (0, (1, ())), moves[:399] + (((0, 1), 0),))
        self.assertEqual(time_of(moves), (100, 1))

    def test_numbers_grow(self):
        moves = tuple(((1, 10 ** 50 + at), 0) for at in range(20))
        machine = Machine(1, ((),), (("own", 0, 0, (), ()),))
        whole = sum(Fraction(*pause) for pause, _ in moves)
        self.assertEqual(run(machine, (0, (1, (0,))), moves)[-1], (0, (whole.denominator, (whole.numerator,))))
        self.assertEqual(time_of(moves), fraction_of(whole))

    def test_time(self):
        self.assertEqual(time_of(()), (0, 1))
        self.assertEqual(time_of((((0, 7), 3),)), (0, 1))
        self.assertEqual(time_of((((2, 4), GREATEST), ((3, 6), 0))), (1, 1))
        self.assertEqual(time_of((((1, 1), 0),) * 400), (400, 1))

    def test_deeds_take_no_time(self):
        # [6.5]: moves of one time can lead to other standings.
        machine = Machine(1, ((), ()), (("own", 0, 0, (), (1,)), ("own", 0, 1, (), ())))
        one, other = (((1, 1), 0), ((0, 1), 1)), (((0, 1), 0), ((1, 1), 1))
        self.assertEqual(time_of(one), time_of(other))
        self.assertNotEqual(run(machine, (0, (1, (0,))), one)[-1], run(machine, (0, (1, (0,))), other)[-1])


class OtherNamesTest(unittest.TestCase):
    """[5.4] once more."""

    def test_runs_are_led_to_runs(self):
        for random, machine, at in drawn_standings("placed runs", 60, busy=True):
            moves = drawn_moves(random, machine, at, 5)
            passed = run(machine, at, moves)
            for order in list(permutations(range(len(machine.places))))[::3]:
                told = {index: place for place, index in enumerate(order)}
                other = placed(machine, order)
                self.assertEqual(
                    run(other, (told[at[0]], at[1]), moves), tuple((told[place], point) for place, point in passed)
                )
                back = tuple(told[index] for index in range(len(order)))
                self.assertEqual(placed(other, back), machine)

    def test_without_a_deed_the_others_are_open_where_they_were(self):
        for random, machine, at in drawn_standings("without a deed", 80, busy=True):
            for deed in range(len(machine.deeds)):
                other = without_deed(machine, deed)
                left = [index for index in range(len(machine.deeds)) if index != deed]
                self.assertEqual(
                    [pauses_for(other, at, index) for index in range(len(left))],
                    [pauses_for(machine, at, index) for index in left],
                )
                self.assertEqual(longest(other, at), longest(machine, at))


class LongestTest(unittest.TestCase):
    def test_just_the_pauses_that_can_be_waited(self):
        kinds = {}
        for _, machine, at in drawn_standings("longest", 300):
            told = longest(machine, at)
            kinds[told is None or told[1]] = kinds.get(told is None or told[1], 0) + 1
            shown = tuple(shown_by(at[1]))
            if told is not None:
                self.assertTrue(is_lowest(told[0]))
            for pause in moments(machine, shown):
                let = keeps_rules(grown(shown, pause), machine.places[at[0]])
                within = told is None or pause < Fraction(*told[0]) or (pause == Fraction(*told[0]) and told[1] == 1)
                self.assertIs(let, within)
        self.assertGreater(min(kinds.values()), 20)

    def test_ends(self):
        self.assertEqual(longest(ENDS, (0, (2, (1,)))), ((5, 2), 1))
        self.assertEqual(longest(ENDS, (0, (2, (6,)))), ((0, 1), 1))
        self.assertEqual(longest(ENDS, (1, (2, (5,)))), ((1, 2), 0))
        self.assertIsNone(longest(ENDS, (2, (2, (5,)))))
        self.assertEqual(longest(ENDS, (3, (2, (0,)))), ((0, 1), 1))
        self.assertIsNone(longest(FREE, (0, (1, ()))))

    def test_the_nearest_of_several_limits(self):
        # Both end at one moment: the strict one leaves it out.
        self.assertEqual(longest(SAND, (0, (1, (0, 1)))), ((3, 1), 0))
        self.assertEqual(longest(SAND, (0, (1, (1, 1)))), ((2, 1), 1))
        self.assertEqual(longest(SAND, (0, (4, (4, 15)))), ((1, 4), 0))

    def test_no_whole_pause_need_come_near_the_end(self):
        # [6.5]
        self.assertEqual(longest(ENDS, (0, (2, (5,)))), ((1, 2), 1))


class PausesForTest(unittest.TestCase):
    def test_just_the_pauses_behind_which_the_deed_is_open(self):
        kinds = {}
        for _, machine, at in drawn_standings("pauses for", 1500):
            shown = tuple(shown_by(at[1]))
            for deed in range(len(machine.deeds)):
                told = pauses_for(machine, at, deed)
                kind = told if told is None else (told[1], told[2] is None, told[3])
                kinds[kind] = kinds.get(kind, 0) + 1
                for pause in moments(machine, shown):
                    let = is_open_at(machine, deed, at[0], grown(shown, pause))
                    self.assertIs(let, self.is_told(told, pause), (machine.places, machine.deeds[deed], at, told, pause))
        for kind in (None, (1, True, 0), (0, True, 0), (1, False, 1), (0, False, 0), (1, False, 0), (0, False, 1)):
            self.assertGreater(kinds[kind], 2, kind)
        self.assertEqual(len(kinds), 7)

    def is_told(self, told, pause):
        if told is None:
            return False
        least, least_end, greatest, greatest_end = told
        self.assertTrue(is_lowest(least) and (greatest is None or is_lowest(greatest)))
        told_pause = fraction_of(pause)
        if compare(told_pause, least) < 1 - least_end:
            return False
        return greatest is None or compare(told_pause, greatest) < greatest_end

    def test_ends(self):
        self.assertEqual(pauses_for(SAND, (0, (1, (0, 0))), 0), None)
        self.assertEqual(pauses_for(SAND, (0, (2, (0, 2))), 0), ((1, 1), 0, (2, 1), 0))
        self.assertEqual(pauses_for(SAND, (0, (2, (2, 4))), 0), ((0, 1), 0, (1, 1), 0))
        self.assertEqual(pauses_for(SAND, (0, (2, (2, 5))), 0), ((0, 1), 1, (1, 2), 1))
        self.assertEqual(pauses_for(SAND, (1, (2, (2, 5))), 0), None)
        self.assertEqual(pauses_for(SAND, (0, (2, (2, 2))), 2), ((1, 1), 1, (2, 1), 1))
        # Deed 1 needs the first clock below 1 at its goal.
        self.assertEqual(pauses_for(SAND, (0, (2, (0, 3))), 1), ((1, 2), 1, (1, 1), 0))
        self.assertEqual(pauses_for(SAND, (0, (2, (0, 2))), 1), None)
        # No point keeps the rules of deed 3.
        self.assertEqual(pauses_for(SAND, (0, (2, (3, 3))), 3), None)

    def test_one_moment_and_no_end(self):
        machine = Machine(1, ((), ()), (("own", 0, 1, ((0, 1, (-2, 1)), (1, 0, (2, 1))), ()), ("own", 0, 1, ((0, 1, (-2, 0)),), ())))
        self.assertEqual(pauses_for(machine, (0, (2, (1,))), 0), ((3, 2), 1, (3, 2), 1))
        self.assertEqual(pauses_for(machine, (0, (2, (1,))), 1), ((3, 2), 0, None, 0))
        self.assertEqual(pauses_for(machine, (0, (2, (4,))), 0), ((0, 1), 1, (0, 1), 1))
        self.assertEqual(pauses_for(machine, (0, (2, (4,))), 1), ((0, 1), 0, None, 0))
        self.assertEqual(pauses_for(machine, (0, (2, (5,))), 0), None)
        self.assertEqual(pauses_for(machine, (0, (2, (5,))), 1), ((0, 1), 1, None, 0))
        self.assertEqual(pauses_for(FREE, (0, (3, ())), 0), ((0, 1), 1, None, 0))
        self.assertEqual(pauses_for(FREE, (0, (3, ())), 1), None)

    def test_pauses_that_lead_into_the_open_lot(self):
        for random, machine, at in drawn_standings("open lots", 200, busy=True):
            for deed in range(len(machine.deeds)):
                told, lot = pauses_for(machine, at, deed), open_lot(machine, deed)
                pause = (random.randint(0, 12), random.choice((1, 2, 3, 4)))
                open_then = machine.deeds[deed][1] == at[0] and lot is not None and is_in(lot, later(at[1], pause))
                self.assertIs(open_then, self.is_told(told, Fraction(*pause)))

    def test_open_is_not_open_for_ever(self):
        # [6.5]
        self.assertEqual(done(SAND, (0, (2, (2, 5))), 0), (1, (2, (2, 5))))
        self.assertIs(is_standing(SAND, waited(SAND, (0, (2, (2, 5))), (1, 1))), True)
        with self.assertRaises(Refused):
            done(SAND, waited(SAND, (0, (2, (2, 5))), (1, 1)), 0)


if __name__ == "__main__":
    unittest.main()
