"""[0.1], [0.4] and [0.17] for the stages 6 to 12: wrong arguments, and the first of two wrong ones.

Each call is told with good values for all parameters; one after the other is made wrong, at
first alone, then with all behind it wrong, too.
"""

import unittest

from pauseplay.errors import InvalidArea, InvalidField, InvalidMachine, InvalidNumber, InvalidOperation
from pauseplay.errors import InvalidPlaces, InvalidPoint, InvalidStanding
from pauseplay.game.plays import answers_to, behind, is_answer, is_offer, offers_at, opens, played
from pauseplay.game.ways import is_pause_for, pause_for, safe_pauses, way
from pauseplay.game.won import led_into, led_out, rank, rounds, won_field, won_or_held
from pauseplay.machine.classes import all_classes, are_alike, back_class, class_of, classes_waited, how_many
from pauseplay.machine.classes import is_class, lot_of_class, next_class, point_in
from pauseplay.machine.fields import ahead_of_deed, ahead_of_wait, are_equal_fields, behind_deed, behind_wait
from pauseplay.machine.fields import field_has, is_field, is_within_field, joined, places_field, rest
from pauseplay.machine.reach import coming, coming_within, fewest_moves, is_closed, is_run_or_closed, run_or_closed
from pauseplay.machine.runs import done, is_standing, longest, pauses_for, run, time_of, waited
from tests.kinds import ANY, GREATEST, LAMP, NOT_AREAS_OF_TWO, NOT_BACK, NOT_CLASSES, NOT_CLOCK_NUMBERS, NOT_FIELDS
from tests.kinds import NOT_INDICES_OF_DEEDS, NOT_INDICES_OF_PLACES, NOT_INTEGERS, NOT_MACHINES, NOT_MOST, NOT_MOVES
from tests.kinds import NOT_PAIRS, NOT_PAUSES, NOT_PLACES, NOT_POINTS, NOT_STANDINGS, NOUGHT_OF_TWO, Calls

OFFER = ((1, 1), 0)

NOT_OFFERS = (
    (None, (), ((1, 1),), ((1, 1), 0, 0), [(1, 1), 0], ([1, 1], 0), ((1, 1), 1), ((1, 1), 2), ((1, 1), 3), ((0, 1), 0), ((4, 1), 0))
    + (((1, 1), 0, ("let",)), {(1, 1): 0}, LAMP)
    + tuple((pause, 0) for pause in NOT_PAUSES)
    + tuple(((1, 1), deed) for deed in NOT_INDICES_OF_DEEDS)
    + NOT_PAIRS
)

NOT_ANSWERS = (
    (None, (), "let", ["let"], ("Let",), ("let", 1), ("let", (1, 1), 1), (("let",),), ("deed",), ("deed", (1, 1)), {"let": 1}, LAMP)
    + (("deed", (3, 2), 1), ("deed", (1, 2), 1), ("deed", (1, 1), 0), ("deed", (1, 1), 3), ("deed", (1, 1), 1, 1), ["deed", (1, 1), 1])
    + (("done", (1, 1), 1), ((1, 1), 1), ("deed", ((1, 1), 1)), (None, (1, 1), 1))
    + tuple(("deed", pause, 1) for pause in NOT_PAUSES)
    + tuple(("deed", (1, 1), deed) for deed in NOT_INDICES_OF_DEEDS)
    + NOT_INTEGERS
)

NOT_TUPLES_OF_TWO = tuple(part for part in NOT_PAIRS if not (isinstance(part, tuple) and len(part) == 2))

NOT_TURNS = (
    (None, "", "ab", 0, 1, True, [], [(OFFER, ("let",))], {}, ((OFFER,),), ((OFFER, ("let",), 0),), ([OFFER, ("let",)],), LAMP)
    + tuple((part,) for part in NOT_TUPLES_OF_TWO) + tuple(((OFFER, ("let",)), part) for part in NOT_TUPLES_OF_TWO)
)

MACHINE = (LAMP, NOT_MACHINES, InvalidMachine)
# The deeds 0 and 1 are open behind a pause of 1, and none of them behind one of 1/2.
STANDING = ((0, (2, (0, 1))), NOT_STANDINGS, InvalidStanding)
PLACE = (1, NOT_INDICES_OF_PLACES, InvalidNumber)
DEED = (2, NOT_INDICES_OF_DEEDS, InvalidNumber)
PAUSE = ((1, 2), NOT_PAUSES, InvalidPoint)
POINT = ((1, (0, 1)), NOT_POINTS, InvalidPoint)
MOVES = ((), NOT_MOVES, InvalidOperation)
AREA = ((NOUGHT_OF_TWO,), NOT_AREAS_OF_TWO, InvalidArea)
FIELD = (((), (), ()), NOT_FIELDS, InvalidField)
GOALS = ((1,), NOT_PLACES, InvalidPlaces)
MANY = (3, (-1, 401, GREATEST) + NOT_INTEGERS, InvalidNumber)
CLOCKS = (2, NOT_CLOCK_NUMBERS, InvalidNumber)
MOST = (2, NOT_MOST, InvalidNumber)
TOLD = (((0, 0), (1, 2), ()), NOT_CLASSES, InvalidOperation)
BACK = ((1,), NOT_BACK, InvalidOperation)
OFFERED = (OFFER, NOT_OFFERS, InvalidOperation)
ANSWER = (("let",), NOT_ANSWERS, InvalidOperation)
TURNS = ((), NOT_TURNS, InvalidOperation)

CALLS_OF_MACHINES = (
    (is_standing, MACHINE, ANY), (waited, MACHINE, STANDING, PAUSE), (run, MACHINE, STANDING, MOVES), (longest, MACHINE, STANDING),
    (done, MACHINE, ((1, (1, (5, 1))), NOT_STANDINGS, InvalidStanding), DEED), (pauses_for, MACHINE, STANDING, DEED),
    (class_of, POINT, MOST), (are_alike, POINT, POINT, MOST), (is_class, CLOCKS, MOST, ANY),
    (point_in, CLOCKS, MOST, TOLD), (lot_of_class, CLOCKS, MOST, TOLD), (next_class, CLOCKS, MOST, TOLD),
    (classes_waited, CLOCKS, MOST, TOLD), (back_class, CLOCKS, MOST, TOLD, BACK), (how_many, CLOCKS, MOST), (all_classes, CLOCKS, MOST),
    (is_field, MACHINE, ANY), (field_has, MACHINE, FIELD, STANDING),
    (behind_wait, MACHINE, PLACE, AREA), (ahead_of_wait, MACHINE, PLACE, AREA),
    (behind_deed, MACHINE, DEED, AREA), (ahead_of_deed, MACHINE, DEED, AREA),
    (rest, MACHINE, FIELD), (joined, MACHINE, FIELD, FIELD), (are_equal_fields, MACHINE, FIELD, FIELD),
    (is_within_field, MACHINE, FIELD, FIELD), (places_field, MACHINE, GOALS),
    (coming, MACHINE, GOALS), (coming_within, MACHINE, GOALS, MANY), (fewest_moves, MACHINE, STANDING, GOALS),
    (run_or_closed, MACHINE, STANDING, GOALS), (is_run_or_closed, MACHINE, STANDING, GOALS, ANY), (is_closed, MACHINE, ANY),
)

CALLS_OF_GAMES = (
    (way, MACHINE, PLACE, AREA, AREA), (safe_pauses, MACHINE, STANDING, AREA), (pause_for, MACHINE, STANDING, AREA, AREA),
    (is_pause_for, MACHINE, STANDING, AREA, AREA, ANY),
    (offers_at, MACHINE, STANDING), (opens, MACHINE, STANDING, PAUSE), (is_offer, MACHINE, STANDING, ANY),
    (is_answer, MACHINE, STANDING, OFFERED, ANY), (answers_to, MACHINE, STANDING, OFFERED),
    (behind, MACHINE, STANDING, OFFERED, ANSWER), (played, MACHINE, STANDING, GOALS, TURNS),
    (led_into, MACHINE, FIELD), (led_out, MACHINE, FIELD), (rounds, MACHINE, GOALS), (won_field, MACHINE, GOALS),
    (rank, MACHINE, GOALS, STANDING), (won_or_held, MACHINE, GOALS, STANDING),
)


class WrongValuesTest(Calls, unittest.TestCase):
    def test_calls_of_machines(self):
        for call, *parameters in CALLS_OF_MACHINES:
            self.look_at(call, parameters)

    def test_calls_of_games(self):
        for call, *parameters in CALLS_OF_GAMES:
            self.look_at(call, parameters)

    def test_time_of(self):
        good = (((0, 1), 0), ((GREATEST, GREATEST), GREATEST))
        time_of(good)
        for value in (None, "", "ab", 0, True, [], [((0, 1), 0)], {}, LAMP, (((0, 1), 0),) * 401):
            self.assert_refused(InvalidOperation, time_of, value)
        for part in NOT_PAIRS + tuple((pause, 0) for pause in NOT_PAUSES):
            self.assert_refused(InvalidOperation, time_of, good + (part,))
        for deed in (-1, -GREATEST) + NOT_INTEGERS:
            self.assert_refused(InvalidOperation, time_of, good + (((0, 1), deed),))


class JudgedValuesTest(Calls, unittest.TestCase):
    """[0.5]: functions that judge a value raise nothing for it."""

    def assert_none(self, values, call, *arguments):
        for value in values:
            self.assertIs(call(*arguments, value), False)

    def test_standings_classes_and_fields(self):
        self.assert_none(NOT_STANDINGS, is_standing, LAMP)
        self.assert_none(NOT_CLASSES, is_class, 2, 2)
        self.assert_none(NOT_FIELDS, is_field, LAMP)
        self.assert_none(NOT_FIELDS, is_closed, LAMP)

    def test_runs_and_closed_fields(self):
        at = (0, (1, (0, 0)))
        values = NOT_PAIRS + NOT_MOVES + NOT_FIELDS + (LAMP, ("run",), ("closed",), ("run", (), ()), ["run", ()], (("run",), ()))
        self.assert_none(values, is_run_or_closed, LAMP, at, (0,))
        self.assert_none(tuple(("run", moves) for moves in NOT_MOVES), is_run_or_closed, LAMP, at, (0,))
        self.assert_none(tuple(("closed", field) for field in NOT_FIELDS), is_run_or_closed, LAMP, at, ())
        self.assertIs(is_run_or_closed(LAMP, at, (0,), ("run", ())), True)

    def test_pauses_offers_and_answers(self):
        at = STANDING[0]
        self.assert_none(NOT_PAUSES, is_pause_for, LAMP, at, (NOUGHT_OF_TWO,), ())
        self.assert_none(NOT_OFFERS, is_offer, LAMP, at)
        self.assert_none(NOT_ANSWERS, is_answer, LAMP, at, OFFER)
        self.assertIs(is_offer(LAMP, at, OFFER), True)
        self.assertIs(is_answer(LAMP, at, OFFER, ("deed", (1, 1), 1)), True)


class LaterErrorsTest(Calls, unittest.TestCase):
    """Errors that come with "then" are raised behind all others."""

    def test_unlike_numbers_of_clocks(self):
        self.assert_refused(InvalidOperation, are_alike, (1, (0,)), (1, (0, 0)), 2)
        self.assert_number_refused(21, are_alike, (1, (0,)), (1, (0, 0)), 21)
        self.assert_refused(InvalidPoint, are_alike, (1, (0,)), (0, (0, 0)), 21)

    def test_too_many_classes(self):
        self.assert_too_many(5000, all_classes, 4, 3)
        self.assert_number_refused(21, all_classes, 4, 21)
        self.assert_number_refused(5, all_classes, 5, 21)

    def test_refusals(self):
        at = (0, (1, (0, 0)))
        self.assert_reason(("limits",), waited, LAMP, at, (4, 1))
        self.assert_reason(("start",), done, LAMP, at, 2)
        self.assert_refused(InvalidStanding, waited, LAMP, (0, (1, (4, 0))), (4, 1))
        self.assert_refused(InvalidPoint, waited, LAMP, at, (-4, 1))
        self.assert_number_refused(4, done, LAMP, at, 4)
        self.assert_reason(("move", 0, ("limits",)), run, LAMP, at, (((4, 1), 0), ((4, 1), 2)))
        self.assert_refused(InvalidOperation, run, LAMP, at, (((4, 1), 0), ((4, 1), 4)))
        self.assert_refused(InvalidOperation, opens, LAMP, at, (4, 1))
        self.assert_refused(InvalidPoint, opens, LAMP, at, (4, 0))

    def test_refusals_of_plays(self):
        at = (0, (1, (0, 0)))
        self.assert_reason(("goal", 0), played, LAMP, at, (0,), (((1, 1), ("let",)),))
        self.assert_refused(InvalidOperation, played, LAMP, at, (0,), (((1, 1), ("let",)), None))
        self.assert_refused(InvalidPlaces, played, LAMP, at, (3,), (((1, 1), ("let",)), None))


if __name__ == "__main__":
    unittest.main()
