"""[14.1] to [14.6]: held fields, answers by them, and outcomes: won or held, with papers for both."""

import unittest
from fractions import Fraction
from itertools import permutations

from pauseplay.errors import InvalidField, InvalidOperation, InvalidPlaces, InvalidStanding
from pauseplay.game.foe import answer_by, foe_paper, is_answer_by, is_foe_paper, is_outcome, outcome
from pauseplay.game.own import is_own_paper, own_paper, paper_field
from pauseplay.game.plays import behind, is_answer, offers_at, played
from pauseplay.game.won import won_field, won_or_held
from pauseplay.lots.lots import everything, is_lot_within
from pauseplay.machine.fields import are_equal_fields, field_has, is_field, is_within_field, joined, places_field, rest
from pauseplay.machine.machines import Machine, without_deed
from tests.drawn import is_in_some, point_showing, seeded, shown_by
from tests.kinds import GREATEST, TOO_GREAT, Calls, nested
from tests.plain import games_won, grown, is_open_at, led_to, let_moments, looked_standings, plain_key
from tests.plain_games import drawn_games, pauses_in
from tests.test_ways import at, span

# From 1 on the own deed is open, the foe's above 2.
GATE = Machine(1, ((), (), ()), (("own", 0, 1, ((0, 1, (-1, 1)),), ()), ("foe", 0, 2, ((0, 1, (-2, 0)),), ())))

ALL, HIGH, LOW = everything(1), span(2, 0, None, 0), span(0, 1, 2, 1)

HELD = ((HIGH,), (), (ALL,))


def drawn_offer(random, machine, standing):
    """Any offer, None if there is none."""
    found = [(pause, deed) for deed, stretch in offers_at(machine, standing) for pause in pauses_in(stretch)]
    return random.choice(found) if found else None


def drawn_keys(random, plain, goals):
    """Keys of a held field, perhaps with a few taken out or put in; or drawn ones."""
    held = set(plain.standings) - set(plain.rounds_won(goals)[0])
    kind = random.choice(("held", "less", "less", "more", "drawn", "places"))
    if kind == "held":
        return held
    if kind == "less":
        return held - set(random.sample(sorted(held), min(len(held), random.randint(1, 3))))
    if kind == "more":
        return held | set(random.sample(sorted(plain.standings), 1))
    if kind == "places":
        places = random.sample(range(len(plain.machine.places)), random.randint(1, 2))
        return {key for key in held if key[0] in places}
    return set(random.sample(sorted(plain.standings), min(len(plain.standings), random.randint(1, 6))))


class HeldFieldsTest(unittest.TestCase):
    def test_the_greatest_one(self):
        # [14.3]
        for machine, goals, plain, ranks, _ in games_won():
            field = foe_paper(machine, goals)
            self.assertIs(is_field(machine, field), True)
            self.assertIs(is_foe_paper(machine, goals, field), True, (machine.places, machine.deeds, goals))
            self.assertIs(are_equal_fields(machine, field, rest(machine, won_field(machine, goals))), True)
            for key in plain.standings:
                place, point = plain.standing(key)
                self.assertIs(is_in_some(field[place], point), key not in ranks)

    def test_none_of_the_lots_is_within_another_one(self):
        for machine, goals, _, _, _ in games_won()[:60]:
            for area in foe_paper(machine, goals):
                for one, other in permutations(area, 2):
                    self.assertIs(is_lot_within(one, other), False)

    def test_just_the_held_ones(self):
        # [14.1]: fields with one class of points more or less, and drawn ones.
        random = seeded("held")
        found = {True: 0, False: 0}
        for machine, goals, plain in drawn_games():
            for _ in range(8):
                keys = drawn_keys(random, plain, goals)
                expected = plain.is_held(goals, keys)
                found[expected] += 1
                field = plain.field(keys)
                self.assertIs(is_foe_paper(machine, goals, field), expected, (machine.places, machine.deeds, goals, field))
                if expected:
                    self.assertIs(is_within_field(machine, field, foe_paper(machine, goals)), True)
        self.assertGreater(min(found.values()), 100)

    def test_two_together_are_held(self):
        # [14.3]
        random = seeded("two held")
        found = 0
        for machine, goals, plain in drawn_games():
            held = [keys for keys in (drawn_keys(random, plain, goals) for _ in range(6)) if plain.is_held(goals, keys)]
            for one, other in zip(held, held[1:]):
                found += one != other
                both = joined(machine, plain.field(one), plain.field(other))
                self.assertIs(is_foe_paper(machine, goals, both), True)
        self.assertGreater(found, 50)

    def test_lots_in_parts_and_twice(self):
        self.assertIs(is_foe_paper(GATE, (1,), HELD), True)
        parts = (span(5, 1, None, 0), span(2, 0, 3, 1), span(3, 0, 5, 0), span(4, 1, 4, 1))
        self.assertIs(is_foe_paper(GATE, (1,), (parts, (), (ALL, ALL, HIGH))), True)
        self.assertIs(is_foe_paper(GATE, (1,), (parts[1:], (), (ALL,))), True)
        self.assertIs(is_foe_paper(GATE, (1,), (parts + (LOW,), (), (ALL,))), False)
        self.assertIs(is_foe_paper(GATE, (1,), ((HIGH, span(2, 1, 2, 1)), (), (ALL,))), False)

    def test_edges(self):
        nothing = ((), (), ())
        for goals in ((), (1,), (0, 1, 2)):
            self.assertIs(is_foe_paper(GATE, goals, nothing), True)
        every = places_field(GATE, (0, 1, 2))
        self.assertIs(is_foe_paper(GATE, (), every), True)
        for goals in ((0,), (1,), (2,), (0, 1, 2)):
            self.assertIs(is_foe_paper(GATE, goals, every), False)
        self.assertEqual(foe_paper(GATE, (0, 1, 2)), nothing)
        self.assertIs(are_equal_fields(GATE, foe_paper(GATE, ()), every), True)
        self.assertIs(is_foe_paper(GATE, (1,), ((), (), (ALL,))), True)
        self.assertIs(is_foe_paper(GATE, (1,), ((HIGH,), (), ())), False)
        self.assertIs(is_foe_paper(GATE, (1,), ((), (LOW,), ())), False)
        free = Machine(0, ((), ()), (("own", 0, 1, (), ()), ("foe", 0, 0, (), ())))
        nought = everything(0)
        self.assertIs(is_foe_paper(free, (1,), ((nought,), ())), True)
        self.assertIs(is_foe_paper(without_deed(free, 1), (1,), ((nought,), ())), False)
        self.assertIs(is_foe_paper(free, (1,), ((nought,), (nought,))), False)

    def test_a_foe_deed_at_the_very_moment_of_the_offer(self):
        for rules, held in (
            (((0, 1, (-2, 1)), (1, 0, (2, 1))), True), (((0, 1, (-2, 0)),), False), (((1, 0, (2, 0)),), True),
            (((0, 1, (-3, 1)), (1, 0, (3, 1))), False),
        ):
            machine = Machine(1, ((), (), ()), (("own", 0, 1, ((0, 1, (-2, 1)), (1, 0, (2, 1))), ()), ("foe", 0, 2, rules, ())))
            field = ((span(0, 1, 1, 0),), (), (ALL,))
            self.assertIs(is_foe_paper(machine, (1,), field), held)

    def test_values_of_another_kind(self):
        values = [None, True, 0, "", "abc", (), [], {}, [*HELD], HELD[:2], HELD + ((),), ((HIGH,), (), ALL), ((HIGH,), (), [ALL]), nested(20), GATE]
        for lot in (everything(0), everything(2), None, 0, True, (), [*ALL], (((0, 1), (0, 0)), (None, (0, 0))), (((0, 1), (True, 1)), (None, (0, 1)))):
            values.extend([((lot,), (), (ALL,)), ((HIGH, lot), (), (ALL,)), ((), (), (lot,))])
        values.append(((), (), ((((0, 1), (0, 1)), ((TOO_GREAT, 1), (0, 1))),)))
        for value in values:
            self.assertIs(is_foe_paper(GATE, (1,), value), False)
        self.assertIs(is_foe_paper(GATE, (1,), ((), (), ((((0, 1), (0, 1)), ((GREATEST, 1), (0, 1))),))), True)
        limited = Machine(1, (((1, 0, (3, 1)),), ()), ())
        self.assertIs(is_foe_paper(limited, (1,), ((span(0, 1, 3, 1),), ())), True)
        self.assertIs(is_foe_paper(limited, (1,), ((span(0, 1, 4, 1),), ())), False)

    def test_fields_of_other_goals_and_machines(self):
        self.assertIs(is_foe_paper(GATE, (2,), HELD), False)
        self.assertIs(is_foe_paper(GATE, (1, 2), HELD), False)
        self.assertIs(is_foe_paper(without_deed(GATE, 1), (1,), HELD), False)
        self.assertIs(is_foe_paper(Machine(1, ((), ()), ()), (), HELD), False)
        self.assertIs(is_foe_paper(Machine(2, ((), (), ()), ()), (), HELD), False)


class AnswersTest(Calls, unittest.TestCase):
    def test_answers(self):
        self.assertEqual(answer_by(GATE, (1,), HELD, at(3), ((0, 1), 0)), ("deed", (0, 1), 1))
        self.assertEqual(answer_by(GATE, (1,), HELD, at(5, 2), ((7, 1), 0)), ("deed", (0, 1), 1))
        # What leads into the field by itself is let, whatever else there is.
        loop = Machine(1, ((), ()), (("own", 0, 0, ((0, 1, (-1, 0)),), (1,)), ("foe", 0, 0, (), ()), ("own", 0, 1, (), ())))
        every = ((ALL,), ())
        self.assertEqual(answer_by(loop, (1,), every, at(0), ((2, 1), 0)), ("let",))
        self.assertEqual(answer_by(loop, (1,), every, at(0), ((2, 1), 2)), ("deed", (0, 1), 1))
        self.assertIs(is_answer_by(loop, (1,), every, at(0), ((2, 1), 0), ("deed", (2, 1), 1)), True)
        # The least deed, and the simplest pause up to that of the offer that stays in the field.
        bells = Machine(
            1, ((), ()),
            (
                ("own", 0, 1, (), ()), ("foe", 0, 1, (), ()), ("foe", 0, 0, ((0, 1, (-1, 0)), (1, 0, (4, 1))), ()),
                ("foe", 0, 0, ((1, 0, (1, 1)),), (1,)), ("foe", 0, 0, ((0, 1, (-4, 1)),), (1,)),
            ),
        )
        for standing, pause, expected in (
            (at(0), (1, 1), (0, 1, 3)), (at(0), (1, 2), (0, 1, 3)), (at(0), (9, 1), (2, 1, 2)), (at(0), (3, 2), (3, 2, 2)),
            (at(1), (1, 3), (1, 3, 2)), (at(3), (0, 1), (0, 1, 2)), (at(5), (9, 1), (0, 1, 4)), (at(9, 2), (0, 1), (0, 1, 4)),
        ):
            self.assertEqual(answer_by(bells, (1,), every, standing, (pause, 0)), ("deed", expected[:2], expected[2]))

    def test_just_the_answers_that_stay(self):
        random = seeded("stay")
        found = {True: 0, False: 0}
        for machine, goals, plain in drawn_games()[:48]:
            field = foe_paper(machine, goals)
            foes = [deed for deed, told in enumerate(machine.deeds) if told[0] == "foe"]
            for standing in looked_standings(random, machine, plain, 5):
                offer = drawn_offer(random, machine, standing) if is_in_some(field[standing[0]], standing[1]) else None
                if offer is None:
                    continue
                told = answer_by(machine, goals, field, standing, offer)
                self.assertIs(is_answer_by(machine, goals, field, standing, offer, told), True)
                place, shown = standing[0], tuple(shown_by(standing[1]))
                values = [(pause, deed) for pause in let_moments(machine, place, shown) for deed in foes + [0]]
                for pause, deed in random.sample(values, min(10, len(values))):
                    value = ("deed", (pause.numerator * 3, pause.denominator * 3), deed)
                    expected = self.does_stay(machine, field, place, offer, pause, deed, grown(shown, pause))
                    found[expected] += 1
                    self.assertIs(is_answer_by(machine, goals, field, standing, offer, value), expected)
                    self.assertFalse(expected and told != ("let",) and deed < told[2])
                stays = field_has(machine, field, behind(machine, standing, offer, ("let",)))
                self.assertIs(is_answer_by(machine, goals, field, standing, offer, ("let",)), stays)
                self.assertIs(told == ("let",), stays)
        self.assertGreater(min(found.values()), 100)

    def does_stay(self, machine, field, place, offer, pause, deed, shown):
        """Whether the foe's deed is open then, not behind the offer, and leads into the field."""
        if machine.deeds[deed][0] != "foe" or pause > Fraction(*offer[0]) or not is_open_at(machine, deed, place, shown):
            return False
        goal, now = led_to(machine, deed, shown)
        return is_in_some(field[goal], point_showing(now[1:]))

    def test_answers_of_another_kind(self):
        offer = ((1, 1), 0)
        for value in (None, True, 0, "let", (), ["let"], ("let",), ("let", 1), ("deed", (0, 1)), ("deed", (0, 1), 1, 1), ["deed", (0, 1), 1],
                      ("deed", (0, 1), True), ("deed", (0, 1), 0), ("deed", (0, 1), 2), ("deed", (2, 1), 1), ("deed", (-1, 1), 1),
                      ("deed", (TOO_GREAT, TOO_GREAT), 1), ("deed", (1, 0), 1), ("deed", [0, 1], 1), GATE):
            self.assertIs(is_answer_by(GATE, (1,), HELD, at(3), offer, value), False)
        self.assertIs(is_answer_by(GATE, (1,), HELD, at(3), offer, ("deed", (GREATEST, GREATEST), 1)), True)

    def test_errors(self):
        other = ((HIGH,), (), ())
        for call in (answer_by, lambda *told: is_answer_by(*told, None)):
            self.assert_refused(InvalidField, call, GATE, (1,), other, at(3), ((0, 1), 0))
            self.assert_refused(InvalidField, call, GATE, (1,), other, None, None)
            self.assert_refused(InvalidPlaces, call, GATE, (3,), other, None, None)
            for standing in (at(2), at(0), at(0, 1, 1), None, at(-1), (3, (1, (5,))), (0, (1, (5, 5)))):
                self.assert_refused(InvalidStanding, call, GATE, (1,), HELD, standing, ((0, 1), 0))
                self.assert_refused(InvalidStanding, call, GATE, (1,), HELD, standing, None)
            for offer in (None, ((0, 1), 1), ((0, 1), 2), ((0, 1),), ((-1, 1), 0), ("let",), [(0, 1), 0]):
                self.assert_refused(InvalidOperation, call, GATE, (1,), HELD, at(3), offer)
            self.assert_refused(InvalidOperation, call, GATE, (1,), HELD, at(3, 1, 2), ((0, 1), 0))


class OutcomeTest(Calls, unittest.TestCase):
    def test_either_or(self):
        # [14.4]
        random = seeded("outcome")
        found = {"won": 0, "held": 0}
        for machine, goals, plain, ranks, _ in games_won():
            paper, field = own_paper(machine, goals), foe_paper(machine, goals)
            for standing in looked_standings(random, machine, plain, 3):
                kind, told = outcome(machine, goals, standing)
                found[kind] += 1
                self.assertEqual(kind, "won" if plain_key(machine, standing) in ranks else "held")
                self.assertEqual(kind, won_or_held(machine, goals, standing)[0])
                self.assertIs(is_outcome(machine, goals, standing, (kind, told)), True)
                self.assertIs(is_outcome(machine, goals, standing, ("won", paper)), kind == "won")
                self.assertIs(is_outcome(machine, goals, standing, ("held", field)), kind == "held")
                if kind == "won":
                    self.assertIs(is_own_paper(machine, goals, told), True)
                    self.assertIs(field_has(machine, paper_field(machine, goals, told), standing), True)
                else:
                    self.assertIs(is_foe_paper(machine, goals, told), True)
                    self.assertIs(field_has(machine, told, standing), True)
        self.assertGreater(min(found.values()), 100)

    def test_values(self):
        paper = ((0, LOW, 0, span(1, 1, None, 0)),)
        for standing, value, expected in (
            (at(1), ("won", paper), True), (at(1), ("won", ()), False), (at(5, 2), ("won", paper), False), (at(1, 1, 1), ("won", ()), True),
            (at(1, 1, 1), ("won", paper), True), (at(1, 1, 1), ("held", ((), (), ())), False), (at(1), ("held", HELD), False),
            (at(5, 2), ("held", HELD), True), (at(1, 1, 2), ("held", HELD), True), (at(1, 1, 2), ("held", ((), (), (LOW,))), True),
            (at(3, 1, 2), ("held", ((), (), (LOW,))), False), (at(5, 2), ("held", ((HIGH,), (), ())), False),
            (at(1), ("held", paper), False), (at(5, 2), ("won", HELD), False), (at(1), ["won", paper], False), (at(1), ("won", paper, 0), False),
            (at(1), ("Won", paper), False), (at(1), ("won",), False), (at(1), paper, False), (at(1), None, False), (at(1), (1, paper), False),
            (at(1), ("won", [*paper]), False), (at(1), ("won", (None,)), False), (at(1), (("won",), paper), False),
        ):
            self.assertIs(is_outcome(GATE, (1,), standing, value), expected)


class PlaysTest(unittest.TestCase):
    def test_no_goal_is_ever_come_to(self):
        # [14.2]
        random = seeded("held plays")
        found = 0
        for machine, goals, plain, ranks, _ in games_won()[:120]:
            field = foe_paper(machine, goals)
            held = sorted(set(plain.standings) - set(ranks))
            for key in random.sample(held, min(2, len(held))):
                standing, turns = plain.standing(key), []
                begin = standing
                while len(turns) < 8:
                    offer = drawn_offer(random, machine, standing)
                    if offer is None:
                        break
                    turns.append((offer, answer_by(machine, goals, field, standing, offer)))
                    standing = behind(machine, standing, *turns[-1])
                    self.assertIs(field_has(machine, field, standing), True)
                found += len(turns) == 8
                self.assertEqual(played(machine, begin, goals, tuple(turns))[1], "open")
        self.assertGreater(found, 30)


class NotTrueTest(unittest.TestCase):
    """[14.6]"""

    def test_what_two_held_fields_have_in_common_need_not_be_held(self):
        two = Machine(0, ((), (), (), ()), (("own", 0, 1, (), ()), ("foe", 0, 2, (), ()), ("foe", 0, 3, (), ())))
        nought = everything(0)
        one, other, both = ((nought,), (), (nought,), ()), ((nought,), (), (), (nought,)), ((nought,), (), (), ())
        self.assertEqual([is_foe_paper(two, (1,), field) for field in (one, other, both)], [True, True, False])

    def test_a_held_field_can_be_left_by_an_own_deed(self):
        self.assertIs(field_has(GATE, HELD, at(3)), True)
        self.assertIs(field_has(GATE, HELD, behind(GATE, at(3), ((0, 1), 0), ("let",))), False)

    def test_a_standing_without_own_deeds_need_not_be_in_each_held_field(self):
        self.assertEqual(offers_at(GATE, at(0, 1, 2)), ())
        self.assertIs(is_foe_paper(GATE, (1,), ((), (), (HIGH,))), True)
        self.assertIs(field_has(GATE, ((), (), (HIGH,)), at(0, 1, 2)), False)

    def test_an_answer_need_not_lead_into_the_field(self):
        self.assertIs(is_answer(GATE, at(3), ((0, 1), 0), ("let",)), True)
        self.assertIs(is_answer_by(GATE, (1,), HELD, at(3), ((0, 1), 0), ("let",)), False)


if __name__ == "__main__":
    unittest.main()
