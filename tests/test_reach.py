"""[9.1] to [9.5]: coming to goals without a foe, runs to them, closed fields, rounds."""

import unittest
from fractions import Fraction
from itertools import combinations, count

from pauseplay.lots.areas import less
from pauseplay.lots.lots import everything, lot_or_ring, point_of
from pauseplay.lots.moves import later_lot
from pauseplay.machine import reach
from pauseplay.machine.fields import are_equal_fields, behind_deed, behind_wait, field_has, is_field, is_within_field, joined
from pauseplay.machine.fields import places_field, rest
from pauseplay.machine.machines import Machine, limits, placed, without_deed
from pauseplay.machine.reach import coming, coming_within, fewest_moves, is_closed, is_run_or_closed, run_or_closed
from pauseplay.machine.runs import run, time_of
from tests.drawn import busy_machine, drawn_area, drawn_field, looked_at, point_showing, seeded
from tests.drawn import shown_by, within
from tests.kinds import LAMP, Calls
from tests.plain import games_coming, grown, is_open_at, keeps_rules, led_to, looked_standings, moments, plain_key

TURN = Machine(
    1, (((1, 0, (2, 1)),), (), ()),
    (("own", 0, 0, ((0, 1, (-1, 1)),), (1,)), ("foe", 0, 1, ((0, 1, (-2, 1)),), ()), ("own", 1, 2, ((1, 0, (1, 0)),), ())),
)


def wheels(*periods):
    """A machine whose clocks have to be set back, each at the end of its own period, until all end at once."""
    limit = tuple((clock, 0, (period, 1)) for clock, period in enumerate(periods, start=1))
    ends = tuple((0, clock, (-period, 1)) for clock, period in enumerate(periods, start=1))
    deeds = tuple(("own", 0, 0, (end,), (clock,)) for clock, end in enumerate(ends, start=1))
    return Machine(len(periods), (limit, ()), deeds + (("foe", 0, 1, ends, ()),))


class RoundsTest(unittest.TestCase):
    def test_constant(self):
        self.assertEqual(reach.MOST_MOVES, 400)

    def test_fewest_moves(self):
        random = seeded("fewest")
        told = {}
        for machine, goals, plain, ranks, _ in games_coming():
            for at in looked_standings(random, machine, plain):
                expected = ranks.get(plain_key(machine, at))
                told[expected] = told.get(expected, 0) + 1
                self.assertEqual(fewest_moves(machine, at, goals), expected, (machine.places, machine.deeds, goals, at))
        for number in (None, 0, 1, 2, 3):
            self.assertGreater(told[number], 20, number)

    def test_just_the_standings_of_each_round(self):
        for machine, goals, plain, ranks, last in games_coming():
            for many in sorted({0, 1, 2, last, last + 1, 400}):
                field = coming_within(machine, goals, many)
                self.assertIs(is_field(machine, field), True)
                for key in plain.standings:
                    expected = key in ranks and ranks[key] <= many
                    self.assertIs(field_has(machine, field, plain.standing(key)), expected)

    def test_just_the_standings_that_come_to_the_goals(self):
        random = seeded("coming")
        for machine, goals, plain, ranks, last in games_coming():
            field = coming(machine, goals)
            self.assertIs(are_equal_fields(machine, field, coming_within(machine, goals, last)), True)
            self.assertIs(is_closed(machine, rest(machine, field)), True)
            if last > 0:
                self.assertIs(are_equal_fields(machine, field, coming_within(machine, goals, last - 1)), False)
            for at in looked_standings(random, machine, plain):
                self.assertIs(field_has(machine, field, at), plain_key(machine, at) in ranks)

    def test_none_of_the_lots_is_within_another_one(self):
        for machine, goals, _, _, last in games_coming():
            for field in (coming(machine, goals), coming_within(machine, goals, max(1, last - 1))):
                for area in field:
                    for one, other in combinations(area, 2):
                        self.assertTrue(less((one,), (other,)) and less((other,), (one,)))

    def test_no_goals_and_all(self):
        for machine, _, plain, _, _ in games_coming()[:24]:
            every = tuple(range(len(machine.places)))
            nothing = ((),) * len(every)
            self.assertEqual(coming(machine, ()), nothing)
            self.assertEqual(coming_within(machine, (), 400), nothing)
            self.assertEqual(coming(machine, every), places_field(machine, every))
            self.assertEqual(coming_within(machine, every, 0), places_field(machine, every))
            at = plain.standing(sorted(plain.standings)[0])
            self.assertEqual(run_or_closed(machine, at, every), ("run", ()))
            self.assertEqual(fewest_moves(machine, at, ()), None)
            self.assertEqual(run_or_closed(machine, at, ())[0], "closed")

    def test_places_in_other_sequences_and_fewer_deeds(self):
        random = seeded("other reach")
        for machine, goals, plain, ranks, _ in games_coming()[:30]:
            order = random.sample(range(len(machine.places)), len(machine.places))
            told = {index: place for place, index in enumerate(order)}
            other, its_goals = placed(machine, tuple(order)), tuple(sorted(told[goal] for goal in goals))
            without = without_deed(machine, 0)
            for place, point in looked_standings(random, machine, plain, 4):
                many = ranks.get(plain_key(machine, (place, point)))
                self.assertEqual(fewest_moves(other, (told[place], point), its_goals), many)
                # [9.4]: with a further deed none needs more moves.
                more = fewest_moves(without, (place, point), goals)
                self.assertTrue(more is None or many <= more)

    def test_deeds_of_both_owners_lead_on(self):
        machine = Machine(0, ((), (), ()), (("foe", 0, 1, (), ()), ("own", 1, 2, (), ())))
        self.assertEqual(fewest_moves(machine, (0, (1, ())), (2,)), 2)
        self.assertEqual(run_or_closed(machine, (0, (1, ())), (2,)), ("run", (((0, 1), 0), ((0, 1), 1))))
        self.assertIsNone(fewest_moves(machine, (2, (1, ())), (1,)))

    def test_goals_that_are_passed_on_the_way(self):
        # [9.1]
        machine = Machine(0, ((), ()), (("own", 0, 1, (), ()), ("own", 1, 0, (), ())))
        moves = (((0, 1), 0), ((0, 1), 1), ((0, 1), 0))
        self.assertIs(is_run_or_closed(machine, (0, (1, ())), (1,), ("run", moves)), True)
        self.assertIs(is_run_or_closed(machine, (0, (1, ())), (1,), ("run", moves[:2])), False)
        self.assertEqual(fewest_moves(machine, (1, (1, ())), (1,)), 0)


class RunTest(Calls, unittest.TestCase):
    def leading(self, machine, ranks, at, deed, many):
        """A function that tells whether a pause and the deed lead to what needs one move less than so many."""
        shown = tuple(shown_by(at[1]))

        def does_lead(pause):
            then = grown(shown, pause)
            if not (keeps_rules(then, machine.places[at[0]]) and is_open_at(machine, deed, at[0], then)):
                return False
            goal, numbers = led_to(machine, deed, then)
            return ranks.get((goal, self.plain.key(goal, numbers)[1])) == many - 1

        return does_lead

    def simplest(self, does_lead, shown, machine):
        """The simplest pause that does, by a look at one after the other; None if none does."""
        if not any(does_lead(pause) for pause in moments(machine, shown)):
            return None
        # Behind most + 1 no rule says anything new, so the next whole number is enough.
        for bottom in count(1):
            for top in range((machine.most + 3) * bottom + 1):
                if does_lead(Fraction(top, bottom)):
                    return (top, bottom)

    def test_the_least_deed_and_the_simplest_pause(self):
        random = seeded("moves")
        told = {}
        for machine, goals, self.plain, ranks, _ in games_coming():
            for at in looked_standings(random, machine, self.plain, 5):
                many = ranks.get(plain_key(machine, at))
                if many is None:
                    continue
                kind, moves = run_or_closed(machine, at, goals)
                self.assertEqual((kind, len(moves)), ("run", many))
                told[many] = told.get(many, 0) + 1
                passed = run(machine, at, moves)
                self.assertIn(passed[-1][0], goals)
                for left, (pause, deed), here in zip(range(many, 0, -1), moves, passed):
                    shown = tuple(shown_by(here[1]))
                    found = [
                        self.simplest(self.leading(machine, ranks, here, each, left), shown, machine)
                        for each in range(deed + 1)
                    ]
                    self.assertEqual(found, [None] * deed + [pause], (machine.places, machine.deeds, goals, here))
        for number in (0, 1, 2, 3):
            self.assertGreater(told[number], 20, number)

    def test_the_least_deed_goes_ahead_of_the_simpler_pause(self):
        rules = ((0, 1, (-1, 0)), (1, 0, (2, 0)))
        machine = Machine(1, ((), ()), (("own", 0, 1, rules, ()), ("own", 0, 1, (), ())))
        self.assertEqual(run_or_closed(machine, (0, (1, (0,))), (1,)), ("run", (((3, 2), 0),)))

    def test_the_simplest_pause_of_all_stretches(self):
        # The first deed leads to where the second one is open by pauses below 1, the third one by 1 itself.
        machine = Machine(
            2, ((), (), ()),
            (
                ("own", 0, 1, ((0, 1, (-1, 0)),), (2,)),
                ("own", 1, 2, ((1, 0, (2, 0)),), ()),
                ("own", 1, 2, ((0, 1, (-2, 1)), (1, 0, (2, 1)), (2, 0, (0, 1))), ()),
            ),
        )
        self.assertEqual(run_or_closed(machine, (0, (4, (3, 0))), (2,)), ("run", (((1, 1), 0), ((0, 1), 1))))
        self.assertEqual(run_or_closed(machine, (0, (1, (1, 0))), (2,)), ("run", (((1, 1), 0), ((0, 1), 2))))

    def test_a_run_that_is_shorter_in_time_can_need_more_moves(self):
        # [9.4]
        machine = Machine(1, ((), (), ()), (("own", 0, 2, ((0, 1, (-5, 1)),), ()), ("own", 0, 1, (), ()), ("own", 1, 2, (), ())))
        self.assertEqual(run_or_closed(machine, (0, (1, (0,))), (2,)), ("run", (((5, 1), 0),)))
        short = (((0, 1), 1), ((0, 1), 2))
        self.assertEqual(time_of(short), (0, 1))
        self.assertIs(is_run_or_closed(machine, (0, (1, (0,))), (2,), ("run", short)), True)

    def test_four_hundred_moves_and_one_more(self):
        machine = wheels(13, 12, 11)
        start = (0, (1, (0, 0, 0)))
        whole = fewest_moves(machine, start, (1,))
        self.assertEqual(whole, 13 * 12 + 13 * 11 + 12 * 11 - 2)
        kind, moves = run_or_closed(machine, self.later(machine, start, whole - 400), (1,))
        self.assertEqual((kind, len(moves)), ("run", 400))
        self.assertIs(is_run_or_closed(machine, self.later(machine, start, whole - 400), (1,), (kind, moves)), True)
        self.assert_too_many(400, run_or_closed, machine, self.later(machine, start, whole - 401), (1,))
        field = coming_within(machine, (1,), 400)
        self.assertIs(field_has(machine, field, self.later(machine, start, whole - 400)), True)
        self.assertIs(field_has(machine, field, self.later(machine, start, whole - 401)), False)

    def later(self, machine, at, many):
        """The standing so many moves later: the clocks that end are set back, one after the other."""
        for _ in range(many):
            left = [bound[0] - value for (_, _, bound), value in zip(machine.places[0], at[1][1])]
            pause, deed = min((number, deed) for deed, number in enumerate(left))
            at = run(machine, at, (((pause, 1), deed),))[-1]
        return at


class ClosedTest(Calls, unittest.TestCase):
    def test_either_or(self):
        random = seeded("either or")
        kinds = {"run": 0, "closed": 0}
        for machine, goals, plain, ranks, _ in games_coming():
            for at in looked_standings(random, machine, plain, 4):
                value = run_or_closed(machine, at, goals)
                kinds[value[0]] += 1
                self.assertEqual(value[0], "run" if plain_key(machine, at) in ranks else "closed")
                self.assertIs(is_run_or_closed(machine, at, goals, value), True)
                if value[0] == "closed":
                    self.assertIs(is_closed(machine, value[1]), True)
                    self.assertIs(field_has(machine, value[1], at), True)
        self.assertGreater(min(kinds.values()), 100)

    def test_closed_by_areas_behind(self):
        random = seeded("closed")
        kinds = {True: 0, False: 0}
        for turn in range(150):
            machine = busy_machine(random, turn % 4, 2)
            field = drawn_field(random, machine)
            if turn % 3:
                field = rest(machine, coming(machine, (random.randrange(len(machine.places)),)))
            if turn % 3 == 2:
                field = tuple(area if random.random() < 0.8 else area[1:] for area in field)
            expected = all(less(behind_wait(machine, place, area), area) == () for place, area in enumerate(field)) and all(
                less(behind_deed(machine, deed, field[told[1]]), field[told[2]]) == ()
                for deed, told in enumerate(machine.deeds)
            )
            kinds[expected] += 1
            self.assertIs(is_closed(machine, field), expected)
        self.assertGreater(min(kinds.values()), 30)

    def test_closed_fields_point_by_point(self):
        random = seeded("points of closed")
        for machine, goals, _, _, _ in games_coming()[:40]:
            field = rest(machine, coming(machine, goals))
            for place, area in enumerate(field):
                for point in looked_at(random, machine.clocks, random.sample(area, min(2, len(area))), 2):
                    at = (place, point)
                    shown = tuple(shown_by(point))
                    if not (keeps_rules(shown, machine.places[place]) and field_has(machine, field, at)):
                        continue
                    for pause in moments(machine, shown):
                        then = grown(shown, pause)
                        if keeps_rules(then, machine.places[place]):
                            self.assert_goes_on(machine, field, place, then)

    def assert_goes_on(self, machine, field, place, shown):
        """The point, and those to which open deeds lead from it, are in the field."""
        reached = [(place, shown)] + [
            led_to(machine, deed, shown) for deed in range(len(machine.deeds)) if is_open_at(machine, deed, place, shown)
        ]
        for goal, numbers in reached:
            self.assertIs(field_has(machine, field, (goal, point_showing(numbers[1:]))), True)

    def test_told_fields(self):
        nothing, last = ((), (), ()), ((), (), (everything(1),))
        self.assertEqual([is_closed(TURN, field) for field in (nothing, last)], [True, True])
        early = lot_or_ring(1, ((1, 0, (1, 0)),))[1]
        late = lot_or_ring(1, ((0, 1, (-1, 1)),))[1]
        # At place 1 what is not below 1 has no deed open; but it goes on growing.
        self.assertIs(is_closed(TURN, ((), (late,), ())), True)
        self.assertIs(is_closed(TURN, ((), (within(late, ((1, 0, (7, 1)),)),), ())), False)
        self.assertIs(is_closed(TURN, ((), (early,), (everything(1),))), False)
        self.assertIs(is_closed(TURN, ((), (early, late), (early,))), False)
        self.assertIs(is_closed(TURN, ((), (early, late), (early, late))), True)
        self.assertIs(is_closed(TURN, ((limits(TURN, 0),), (early, late), (everything(1),))), True)
        self.assertIs(is_closed(TURN, ((limits(TURN, 0),), (lot_or_ring(1, ((0, 1, (-2, 1)),))[1],), ())), True)
        self.assertIs(is_closed(TURN, ((limits(TURN, 0),), (), ())), False)

    def test_no_closed_field_lacks_the_standing_or_has_goals(self):
        at = (1, (1, (1,)))
        late = lot_or_ring(1, ((0, 1, (-1, 1)),))[1]
        for field, goals, expected in (
            (((), (late,), ()), (2,), True), (((), (late,), ()), (0, 2), True), (((), (late,), ()), (), True),
            (((), (late,), ()), (1,), False), (((), (later_lot(late),), (everything(1),)), (2,), False),
            (((), (lot_or_ring(1, ((0, 1, (-1, 0)),))[1],), ()), (2,), False), (((), (), ()), (2,), False),
            (((), (late,), (late,)), (0,), True), (((), (everything(1),), ()), (0,), False),
        ):
            self.assertIs(is_run_or_closed(TURN, at, goals, ("closed", field)), expected)

    def test_runs_that_are_taken(self):
        at = (0, (1, (0,)))
        for moves, goals, expected in (
            ((((2, 1), 1),), (1,), True), ((((4, 2), 1),), (1,), True), ((((1, 1), 0), ((2, 1), 1)), (1,), True),
            ((((3, 2), 0),) * 399 + (((2, 1), 1),), (1,), True), ((((3, 2), 0),) * 400 + (((2, 1), 1),), (1,), False),
            ((), (0,), True), ((), (1,), False), ((((1, 1), 1),), (1,), False), ((((3, 1), 1),), (1,), False),
            ((((2, 1), 1),), (), False), ((((2, 1), 1),), (0,), False), ((((2, 1), 1),), (0, 1, 2), True),
            ((((2, 1), 1), ((0, 1), 2)), (2,), False), ([((2, 1), 1)], (1,), False),
        ):
            self.assertIs(is_run_or_closed(TURN, at, goals, ("run", moves)), expected)

    def test_two_closed_fields_together_are_one(self):
        random = seeded("two closed")
        for machine, goals, _, _, _ in games_coming()[:20]:
            other = (random.randrange(len(machine.places)),)
            one, two = rest(machine, coming(machine, goals)), rest(machine, coming(machine, other))
            self.assertIs(is_closed(machine, joined(machine, one, two)), True)

    def test_what_is_not_true(self):
        # [9.5]: no deed is ever open at the last place, and the closed field with it can be without goals.
        self.assertIs(is_run_or_closed(TURN, (2, (1, (0,))), (1,), ("closed", ((), (), (everything(1),)))), True)
        # Two standings come to the goals, and one between them does not.
        machine = Machine(1, ((), ()), (("own", 0, 1, ((1, 0, (1, 1)),), ()), ("own", 0, 1, ((0, 1, (-3, 1)), (1, 0, (3, 1))), ())))
        two = Machine(2, ((), ()), (("own", 0, 1, ((0, 2, (-1, 1)), (1, 0, (1, 1)), (2, 0, (1, 1))), ()),
                                    ("own", 0, 1, ((0, 1, (-3, 1)), (2, 0, (1, 1))), ())))
        self.assertEqual(fewest_moves(machine, (0, (1, (4,))), (1,)), None)
        self.assertEqual([fewest_moves(two, (0, (1, (x, 1))), (1,)) for x in (1, 2, 3)], [1, None, 1])
        # The rest of a closed field need not be closed.
        self.assertIs(is_closed(TURN, rest(TURN, ((), (), (everything(1),)))), False)

    def test_large_closed_fields(self):
        machine = wheels(11, 10, 9)
        at = (0, (2, (1, 0, 0)))
        value = run_or_closed(machine, at, (1,))
        self.assertEqual(value[0], "closed")
        self.assertIs(is_run_or_closed(machine, at, (1,), value), True)
        self.assertIs(is_within_field(machine, value[1], rest(machine, coming_within(machine, (1,), 3))), True)

    def test_long_numbers(self):
        long = 10 ** 59
        self.assertEqual(run_or_closed(TURN, (0, (long, (1,))), (1,)), ("run", (((2 * long - 1, long), 1),)))
        self.assertEqual(run_or_closed(TURN, (1, (long, (long - 1,))), (2,)), ("run", (((0, 1), 2),)))
        self.assertEqual(run_or_closed(TURN, (1, (long, (long + 1,))), (2,))[0], "closed")

    def test_areas_of_other_lots_with_the_same_points(self):
        random = seeded("other lots")
        for machine, goals, _, _, _ in games_coming()[:30]:
            field = rest(machine, coming(machine, goals))
            cut = tuple(
                less(area, told) + tuple(lot for lot in less(area, less(area, told)))
                for area, told in ((area, drawn_area(random, machine.clocks, 2)) for area in field)
            )
            self.assertIs(are_equal_fields(machine, field, cut), True)
            self.assertIs(is_closed(machine, cut), True)

    def test_points_that_are_told_of_lamp(self):
        field = coming(LAMP, (1,))
        self.assertIs(field_has(LAMP, field, (0, (1, (0, 0)))), True)
        self.assertIs(field_has(LAMP, field, (1, (1, (9, 9)))), True)
        for lot in field[2]:
            self.assertIsNotNone(fewest_moves(LAMP, (2, point_of(lot)), (1,)))


if __name__ == "__main__":
    unittest.main()
