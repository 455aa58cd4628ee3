"""[11.1] to [11.5]: offers, answers, what is behind them, and plays."""

import unittest
from fractions import Fraction
from math import gcd

from pauseplay.errors import InvalidOperation
from pauseplay.game.plays import answers_to, behind, is_answer, is_offer, offers_at, opens, played
from pauseplay.machine.machines import Machine, open_lot
from pauseplay.machine.runs import done, waited
from tests.drawn import busy_machine, drawn_standing, is_in, point_showing, seeded, shown_by
from tests.kinds import GREATEST, Calls
from tests.plain import grown, is_open_at, keeps_rules, led_to, let_moments, moments

RACE = Machine(
    1, (((1, 0, (5, 1)),), (), ()),
    (("own", 0, 1, ((0, 1, (-2, 1)),), ()), ("foe", 0, 2, ((0, 1, (-3, 1)), (1, 0, (4, 0))), (1,)), ("own", 2, 0, (), ())),
)

# The foe's deeds 1 to 4 are open up to a moment, at one alone, from one on, and behind one.
BELLS = Machine(
    1, ((), ()),
    (
        ("own", 0, 1, (), ()), ("foe", 0, 0, ((1, 0, (2, 0)),), ()), ("foe", 0, 0, ((0, 1, (-2, 1)), (1, 0, (2, 1))), (1,)),
        ("foe", 0, 1, ((0, 1, (-2, 1)),), ()), ("foe", 0, 1, ((0, 1, (-2, 0)),), ()), ("own", 0, 0, ((0, 1, (-3, 0)),), ()),
    ),
)

FREE = Machine(0, ((), ()), (("own", 0, 1, (), ()), ("foe", 0, 0, (), ()), ("own", 1, 0, (), ())))


def at(value, bottom=1, place=0):
    """A standing of one clock."""
    return (place, (bottom, (value,)))


def told(pause):
    """A pause of the package for a fraction of Python's."""
    return (pause.numerator, pause.denominator)


def is_told(stretch, pause):
    """Whether a fraction of Python's is in a stretch as it is told."""
    least, least_end, greatest, greatest_end = stretch
    if pause < Fraction(*least) or (pause == Fraction(*least) and least_end == 0):
        return False
    return greatest is None or pause < Fraction(*greatest) or (pause == Fraction(*greatest) and greatest_end == 1)


def is_lowest(stretch):
    """Whether the ends of a stretch are in lowest terms."""
    return all(end is None or gcd(*end) == 1 and end[1] >= 1 for end in (stretch[0], stretch[2]))


def drawn_ones(name, many):
    """Drawn machines, each with a standing."""
    random = seeded(name)
    for turn in range(many):
        machine = busy_machine(random, turn % 5, 3)
        yield random, machine, drawn_standing(random, machine)


def drawn_offer(random, machine, standing):
    """Any offer at the standing, None if there is none."""
    place, shown = standing[0], tuple(shown_by(standing[1]))
    let = [
        (told(pause), deed) for pause in let_moments(machine, place, shown) for deed, each in enumerate(machine.deeds)
        if each[0] == "own" and is_open_at(machine, deed, place, grown(shown, pause))
    ]
    return random.choice(let) if let else None


def drawn_answer(random, machine, standing, offer):
    """Any answer to the offer, seldom to let it."""
    place, shown = standing[0], tuple(shown_by(standing[1]))
    let = [
        ("deed", told(pause), deed) for pause in moments(machine, shown) if pause <= Fraction(*offer[0])
        for deed, each in enumerate(machine.deeds)
        if each[0] == "foe" and is_open_at(machine, deed, place, grown(shown, pause))
    ]
    return random.choice(let) if let and random.random() < 0.8 else ("let",)


class OffersTest(unittest.TestCase):
    def test_just_the_offers(self):
        found = {True: 0, False: 0}
        for _, machine, standing in drawn_ones("offers", 300):
            place, shown = standing[0], tuple(shown_by(standing[1]))
            offers = offers_at(machine, standing)
            self.assertIsInstance(offers, tuple)
            self.assertEqual([deed for deed, _ in offers], sorted({deed for deed, _ in offers}))
            stretches = dict(offers)
            for deed, each in enumerate(machine.deeds):
                if deed in stretches:
                    self.assertEqual((each[0], is_lowest(stretches[deed])), ("own", True))
                for pause in moments(machine, shown):
                    expected = each[0] == "own" and is_open_at(machine, deed, place, grown(shown, pause))
                    found[expected] += 1
                    self.assertIs(deed in stretches and is_told(stretches[deed], pause), expected)
                    self.assertIs(is_offer(machine, standing, (told(pause), deed)), expected)
        self.assertGreater(min(found.values()), 200)

    def test_pauses_at_the_ends_and_just_beyond(self):
        self.assertEqual(offers_at(RACE, at(1)), ((0, ((1, 1), 1, (4, 1), 1)),))
        for pause, expected in (
            ((1, 1), True), ((99, 100), False), ((4, 1), True), ((401, 100), False), ((5, 2), True), ((10, 4), True), ((GREATEST - 1, GREATEST), False),
        ):
            self.assertIs(is_offer(RACE, at(1), (pause, 0)), expected)
        self.assertEqual(offers_at(BELLS, at(5, 2)), ((0, ((0, 1), 1, None, 0)), (5, ((1, 2), 0, None, 0))))
        self.assertIs(is_offer(BELLS, at(5, 2), ((1, 2), 5)), False)
        self.assertIs(is_offer(BELLS, at(5, 2), ((51, 100), 5)), True)
        self.assertIs(is_offer(BELLS, at(5, 2), ((GREATEST, 1), 5)), True)

    def test_limits_of_the_goal(self):
        machine = Machine(2, ((), ((1, 0, (2, 0)), (2, 0, (1, 1)))), (("own", 0, 1, (), (1,)), ("own", 0, 1, (), (2,))))
        self.assertEqual(offers_at(machine, (0, (2, (1, 1)))), ((0, ((0, 1), 1, (1, 2), 1)), (1, ((0, 1), 1, (3, 2), 0))))
        self.assertEqual(offers_at(machine, (0, (1, (2, 2)))), ())

    def test_no_own_deeds_and_no_clocks(self):
        self.assertEqual(offers_at(Machine(1, ((),), (("foe", 0, 0, (), ()),)), at(0)), ())
        self.assertEqual(offers_at(FREE, (0, (5, ()))), ((0, ((0, 1), 1, None, 0)),))
        self.assertEqual(offers_at(FREE, (1, (5, ()))), ((2, ((0, 1), 1, None, 0)),))
        self.assertEqual(offers_at(RACE, at(7, 1, 1)), ())

    def test_deeds_of_the_foe_are_no_offers(self):
        self.assertIs(is_offer(RACE, at(0), ((3, 1), 1)), False)
        self.assertIs(is_offer(RACE, at(0, 1, 2), ((3, 1), 2)), True)
        self.assertIs(is_offer(RACE, at(0, 1, 2), ((3, 1), 0)), False)


class OpensTest(Calls, unittest.TestCase):
    def test_just_the_deeds_that_are_open_then(self):
        for _, machine, standing in drawn_ones("opens", 200):
            place, shown = standing[0], tuple(shown_by(standing[1]))
            for pause in moments(machine, shown):
                now = grown(shown, pause)
                if keeps_rules(now, machine.places[place]):
                    expected = tuple(
                        deed for deed, each in enumerate(machine.deeds)
                        if each[0] == "foe" and is_open_at(machine, deed, place, now)
                    )
                    self.assertEqual(opens(machine, standing, told(pause)), expected)
                else:
                    self.assert_refused_there(machine, standing, told(pause))

    def assert_refused_there(self, machine, standing, pause):
        self.assert_refused(InvalidOperation, opens, machine, standing, pause)

    def test_ends(self):
        for value, bottom, expected in ((1, 1, (1,)), (2, 1, (2, 3)), (5, 2, (3, 4)), (199, 100, (1,))):
            self.assertEqual(opens(BELLS, at(0), (value, bottom)), expected)
        self.assertEqual(opens(RACE, at(0), (3, 1)), (1,))
        self.assertEqual(opens(RACE, at(0), (4, 1)), ())
        self.assertEqual(opens(RACE, at(0), (10, 2)), ())
        self.assert_refused_there(RACE, at(0), (51, 10))
        self.assertEqual(opens(FREE, (0, (1, ())), (7, 1)), (1,))
        self.assertEqual(opens(RACE, at(0, 1, 2), (7, 1)), ())


class AnswersTest(unittest.TestCase):
    def test_just_the_answers(self):
        found = {True: 0, False: 0}
        for random, machine, standing in drawn_ones("answers", 300):
            place, shown = standing[0], tuple(shown_by(standing[1]))
            offer = drawn_offer(random, machine, standing)
            if offer is None:
                continue
            answers = answers_to(machine, standing, offer)
            self.assertIsInstance(answers, tuple)
            self.assertEqual([deed for deed, _ in answers], sorted({deed for deed, _ in answers}))
            stretches = dict(answers)
            self.assertIs(is_answer(machine, standing, offer, ("let",)), True)
            for deed, each in enumerate(machine.deeds):
                if deed in stretches:
                    self.assertEqual((each[0], is_lowest(stretches[deed])), ("foe", True))
                for pause in moments(machine, shown) + [Fraction(*offer[0]), Fraction(*offer[0]) + Fraction(1, 97)]:
                    expected = (
                        each[0] == "foe" and pause <= Fraction(*offer[0]) and is_open_at(machine, deed, place, grown(shown, pause))
                    )
                    found[expected] += 1
                    self.assertIs(deed in stretches and is_told(stretches[deed], pause), expected)
                    self.assertIs(is_answer(machine, standing, offer, ("deed", told(pause), deed)), expected)
        self.assertGreater(min(found.values()), 200)

    def test_up_to_the_moment_of_the_offer(self):
        # At that very moment the foe goes first.
        self.assertEqual(answers_to(RACE, at(0), ((2, 1), 0)), ())
        self.assertEqual(answers_to(RACE, at(0), ((3, 1), 0)), ((1, ((3, 1), 1, (3, 1), 1)),))
        self.assertEqual(answers_to(RACE, at(0), ((6, 2), 0)), ((1, ((3, 1), 1, (3, 1), 1)),))
        self.assertEqual(answers_to(RACE, at(0), ((7, 2), 0)), ((1, ((3, 1), 1, (7, 2), 1)),))
        self.assertEqual(answers_to(RACE, at(0), ((4, 1), 0)), ((1, ((3, 1), 1, (4, 1), 0)),))
        self.assertEqual(answers_to(RACE, at(0), ((5, 1), 0)), ((1, ((3, 1), 1, (4, 1), 0)),))
        self.assertIs(is_answer(RACE, at(0), ((7, 2), 0), ("deed", (7, 2), 1)), True)
        self.assertIs(is_answer(RACE, at(0), ((7, 2), 0), ("deed", (14, 4), 1)), True)
        self.assertIs(is_answer(RACE, at(0), ((7, 2), 0), ("deed", (71, 20), 1)), False)
        self.assertIs(is_answer(RACE, at(0), ((5, 1), 0), ("deed", (4, 1), 1)), False)

    def test_open_ahead_of_it_at_one_moment_and_behind_it(self):
        self.assertEqual(
            answers_to(BELLS, at(0), ((3, 1), 0)),
            (
                (1, ((0, 1), 1, (2, 1), 0)), (2, ((2, 1), 1, (2, 1), 1)), (3, ((2, 1), 1, (3, 1), 1)), (4, ((2, 1), 0, (3, 1), 1)),
            ),
        )
        self.assertEqual(
            answers_to(BELLS, at(0), ((2, 1), 0)),
            ((1, ((0, 1), 1, (2, 1), 0)), (2, ((2, 1), 1, (2, 1), 1)), (3, ((2, 1), 1, (2, 1), 1))),
        )
        self.assertEqual(answers_to(BELLS, at(0), ((3, 2), 0)), ((1, ((0, 1), 1, (3, 2), 1)),))
        self.assertEqual(answers_to(BELLS, at(2), ((0, 1), 0)), ((2, ((0, 1), 1, (0, 1), 1)), (3, ((0, 1), 1, (0, 1), 1))))
        self.assertIs(is_answer(BELLS, at(2), ((0, 1), 0), ("deed", (0, 7), 2)), True)
        self.assertIs(is_answer(BELLS, at(2), ((0, 1), 0), ("deed", (0, 7), 4)), False)

    def test_no_deeds_of_the_foe_and_no_clocks(self):
        machine = Machine(1, ((),), (("own", 0, 0, (), ()),))
        self.assertEqual(answers_to(machine, at(0), ((9, 1), 0)), ())
        self.assertIs(is_answer(machine, at(0), ((9, 1), 0), ("let",)), True)
        self.assertEqual(answers_to(FREE, (0, (1, ())), ((9, 1), 0)), ((1, ((0, 1), 1, (9, 1), 1)),))

    def test_what_is_not_true(self):
        # [11.5]: a shorter pause takes answers away; an answer to one offer is none to each other one.
        self.assertIs(is_answer(RACE, at(0), ((4, 1), 0), ("deed", (3, 1), 1)), True)
        self.assertIs(is_answer(RACE, at(0), ((2, 1), 0), ("deed", (3, 1), 1)), False)


class BehindTest(unittest.TestCase):
    def test_waited_and_done(self):
        found = 0
        for random, machine, standing in drawn_ones("behind", 300):
            offer = drawn_offer(random, machine, standing)
            if offer is None:
                continue
            answer = drawn_answer(random, machine, standing, offer)
            found += answer != ("let",)
            pause, deed = offer if answer == ("let",) else answer[1:]
            goal, numbers = led_to(machine, deed, grown(tuple(shown_by(standing[1])), Fraction(*pause)))
            expected = (goal, point_showing(numbers[1:]))
            self.assertEqual(behind(machine, standing, offer, answer), expected)
            self.assertEqual(done(machine, waited(machine, standing, pause), deed), expected)
        self.assertGreater(found, 50)

    def test_terms(self):
        self.assertEqual(behind(RACE, at(2, 4), ((9, 3), 0), ("let",)), at(7, 2, 1))
        self.assertEqual(behind(RACE, at(2, 4), ((9, 3), 0), ("deed", (15, 6), 1)), at(0, 1, 2))
        self.assertEqual(behind(BELLS, at(0), ((3, 1), 0), ("deed", (2, 4), 1)), at(1, 2))
        self.assertEqual(behind(FREE, (0, (4, ())), ((1, 2), 0), ("deed", (1, 2), 1)), (0, (1, ())))


class PlaysTest(Calls, unittest.TestCase):
    def drawn_turns(self, random, machine, standing, goals, many):
        """Turns that can be one behind the other, at most so many."""
        turns = []
        while len(turns) < many and standing[0] not in goals:
            offer = drawn_offer(random, machine, standing)
            if offer is None:
                break
            answer = drawn_answer(random, machine, standing, offer)
            turns.append((offer, answer))
            standing = behind(machine, standing, offer, answer)
        return tuple(turns)

    def test_turns_one_behind_the_other(self):
        kinds = {"won": 0, "open": 0}
        for random, machine, standing in drawn_ones("plays", 300):
            goals = tuple(sorted(random.sample(range(len(machine.places)), random.choice((0, 1, 1)))))
            turns = self.drawn_turns(random, machine, standing, goals, 5)
            passed, kind = played(machine, standing, goals, turns)
            kinds[kind] += len(turns) > 0
            self.assertEqual((len(passed), passed[0]), (len(turns) + 1, standing))
            for one, other, (offer, answer) in zip(passed, passed[1:], turns):
                self.assertEqual(other, behind(machine, one, offer, answer))
                self.assertNotIn(one[0], goals)
            self.assertEqual(kind, "won" if passed[-1][0] in goals else "open")
        self.assertGreater(min(kinds.values()), 20)

    def test_the_first_turn_that_cannot_be_there(self):
        told_kinds = {"goal": 0, "offer": 0, "answer": 0}
        for random, machine, standing in drawn_ones("wrong plays", 400):
            goals = (random.randrange(len(machine.places)),)
            turns = self.drawn_turns(random, machine, standing, goals, 4)
            passed, kind = played(machine, standing, goals, turns)
            any_turn = (((1, 1), 0), ("let",))
            if kind == "won":
                told_kinds["goal"] += 1
                self.assert_reason(("goal", len(turns)), played, machine, standing, goals, turns + (any_turn, (None, None)))
            if turns:
                index = random.randrange(len(turns))
                offer, _ = turns[index]
                for wrong in ((None, ("let",)), ((offer[0], offer[1] + 40), ("let",)), (offer + offer, None), ((offer[0], True), None)):
                    told_kinds["offer"] += 1
                    self.assert_reason(("offer", index), played, machine, standing, goals, turns[:index] + (wrong,) + turns[index + 1:])
                for wrong in (None, "let", ["let"], ("deed", offer[0], offer[1]), ("deed", (offer[0][0] + offer[0][1], offer[0][1]), 0)):
                    told_kinds["answer"] += 1
                    self.assert_reason(
                        ("answer", index), played, machine, standing, goals, turns[:index] + ((offer, wrong),) + turns[index + 1:]
                    )
        self.assertGreater(min(told_kinds.values()), 50)

    def test_no_turns(self):
        self.assertEqual(played(RACE, at(2, 4), (1,), ()), ((at(2, 4),), "open"))
        self.assertEqual(played(RACE, at(2, 4), (0, 1), ()), ((at(2, 4),), "won"))
        self.assertEqual(played(RACE, at(2, 4, 1), (), ()), ((at(2, 4, 1),), "open"))

    def test_at_a_goal_place_from_the_beginning(self):
        turn = (((3, 1), 0), ("let",))
        self.assert_reason(("goal", 0), played, RACE, at(0), (0,), (turn,))
        self.assert_reason(("goal", 1), played, RACE, at(0), (1,), (turn, turn))
        self.assert_reason(("goal", 1), played, RACE, at(0), (1,), (turn, (None, None)))
        self.assert_reason(("offer", 1), played, RACE, at(0), (2,), (turn, turn))
        self.assertEqual(played(RACE, at(0), (2,), (turn,)), ((at(0), at(3, 1, 1)), "open"))

    def test_a_play_can_be_open_where_nobody_can_go_on(self):
        # [11.4], [11.5]
        passed, kind = played(RACE, at(0), (), ((((2, 1), 0), ("let",)),))
        self.assertEqual((kind, offers_at(RACE, passed[-1])), ("open", ()))

    def test_many_turns(self):
        turns = ((((1, 2), 0), ("deed", (1, 3), 1)),) * 500
        passed, kind = played(FREE, (0, (3, ())), (1,), turns)
        self.assertEqual((len(passed), kind, passed[-1]), (501, "open", (0, (1, ()))))

    def test_numbers_grow(self):
        machine = Machine(1, ((),), (("own", 0, 0, (), ()), ("foe", 0, 0, (), ())))
        pauses = [(1, 10 ** 50 + index) for index in range(9)]
        whole = sum(Fraction(*pause) for pause in pauses)
        turns = tuple(((pause, 0), ("let",)) for pause in pauses)
        self.assertEqual(played(machine, at(0), (), turns)[0][-1], at(whole.numerator, whole.denominator))
        turns = tuple((((1, 1), 0), ("deed", pause, 1)) for pause in pauses)
        self.assertEqual(played(machine, at(0), (), turns)[0][-1], at(whole.numerator, whole.denominator))

    def test_offers_are_open_lots_later(self):
        for _, machine, standing in drawn_ones("open lots", 60):
            for deed, stretch in offers_at(machine, standing):
                self.assertEqual(machine.deeds[deed][1], standing[0])
                if stretch[1] == 1:
                    then = waited(machine, standing, stretch[0])
                    self.assertIs(is_in(open_lot(machine, deed), then[1]), True)


if __name__ == "__main__":
    unittest.main()
