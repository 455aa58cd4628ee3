"""[0.1], [0.4], [0.5] and [0.17] for the stages 13 to 16: wrong arguments, the first of two wrong ones, and judged values."""

import unittest

from pauseplay.errors import InvalidField, InvalidNumber, InvalidOperation, InvalidPlaces, InvalidPoint, InvalidStanding
from pauseplay.game.foe import answer_by, foe_paper, is_answer_by, is_foe_paper, is_outcome, outcome
from pauseplay.game.keep import hunt, hunt_answer, hunt_rank, is_hunt, is_hunt_answer, is_keep_offer, is_kept_field
from pauseplay.game.keep import is_kept_or_hunted, keep_offer, kept_field, kept_or_hunted, safe_by
from pauseplay.game.own import is_offer_by, is_own_paper, offer_by, own_paper, paper_field, row_at
from pauseplay.game.time import is_time_paper, least_time, origins_of, time_paper, timed_standing, with_time, within
from pauseplay.machine.fields import places_field
from tests.kinds import ANY, GREATEST, LAMP, NOT_FIELDS, NOT_INDICES_OF_DEEDS, NOT_INDICES_OF_PLACES, NOT_INTEGERS
from tests.kinds import NOT_LOTS, NOT_MOST, NOT_PAIRS, NOT_PAUSES, NOT_PLACES, NOT_STANDINGS, Calls
from tests.test_wrong_values import FIELD, GOALS, MACHINE, NOT_ANSWERS, NOT_OFFERS, OFFER, STANDING

PAPER = own_paper(LAMP, (1,))

ROW = PAPER[0]

# Papers of LAMP for the place 1, and papers that are none.
NOT_PAPERS = (
    (None, True, 0, "", "ab", [], [ROW], {}, {ROW: ROW}, ROW, (ROW[:3],), (ROW + (0,),), ([*ROW],), ((),), (None,), LAMP, (LAMP,), (ROW, None))
    + ((ROW[::-1],), ((1,) + ROW[1:],), ((2,) + ROW[1:],))
    + tuple(((place,) + ROW[1:],) for place in NOT_INDICES_OF_PLACES)
    + tuple((ROW[:2] + (deed, ROW[3]),) for deed in NOT_INDICES_OF_DEEDS + (1, 2, 3))
    + tuple(((0, lot, 0, ROW[3]),) for lot in NOT_LOTS)
    + tuple(((0, ROW[1], 0, lot),) for lot in NOT_LOTS)
)

EVERY = places_field(LAMP, (0, 1, 2))

HUNT = hunt(LAMP, (2,))

# Hunts for the place 2, and tuples that are none.
NOT_HUNTS = (
    (None, True, 0, "", "ab", [], [*HUNT], {}, HUNT[0], (None,), LAMP, (LAMP,), (EVERY,), HUNT + (EVERY,), HUNT + (None,))
    + tuple((field,) for field in NOT_FIELDS) + tuple(HUNT + (field,) for field in NOT_FIELDS)
)

PAPERED = (PAPER, NOT_PAPERS, InvalidOperation)
NO_GOALS = ((), NOT_PLACES, InvalidPlaces)
BADS = ((2,), NOT_PLACES, InvalidPlaces)
HELD = (EVERY, NOT_FIELDS, InvalidField)
HUNTED = (HUNT, NOT_HUNTS, InvalidOperation)
STANDING_HUNTED = (STANDING[0], NOT_STANDINGS + ((2, (1, (0, 0))), (1, (1, (0, 0)))), InvalidStanding)
OFFERED = (OFFER, NOT_OFFERS, InvalidOperation)
OFFERED_OR_NONE = (OFFER, tuple(value for value in NOT_OFFERS if value is not None), InvalidOperation)
MOST = (5, NOT_MOST, InvalidNumber)
PASSED = ((1, 2), NOT_PAUSES, InvalidPoint)

CALLS_OF_PAPERS = (
    (own_paper, MACHINE, GOALS), (is_own_paper, MACHINE, GOALS, ANY), (paper_field, MACHINE, GOALS, PAPERED), (row_at, MACHINE, GOALS, PAPERED, STANDING),
    (offer_by, MACHINE, GOALS, PAPERED, STANDING), (is_offer_by, MACHINE, GOALS, PAPERED, STANDING, ANY),
    (foe_paper, MACHINE, GOALS), (is_foe_paper, MACHINE, GOALS, ANY), (answer_by, MACHINE, NO_GOALS, HELD, STANDING, OFFERED),
    (is_answer_by, MACHINE, NO_GOALS, HELD, STANDING, OFFERED, ANY), (outcome, MACHINE, GOALS, STANDING), (is_outcome, MACHINE, GOALS, STANDING, ANY),
)

CALLS_OF_KEEPING = (
    (safe_by, MACHINE, GOALS, FIELD), (kept_field, MACHINE, GOALS), (is_kept_field, MACHINE, GOALS, ANY), (hunt, MACHINE, GOALS), (is_hunt, MACHINE, GOALS, ANY),
    (keep_offer, MACHINE, NO_GOALS, HELD, STANDING), (is_keep_offer, MACHINE, NO_GOALS, HELD, STANDING, ANY),
    (hunt_rank, MACHINE, BADS, HUNTED, STANDING), (hunt_answer, MACHINE, BADS, HUNTED, STANDING_HUNTED, OFFERED_OR_NONE),
    (is_hunt_answer, MACHINE, BADS, HUNTED, STANDING_HUNTED, OFFERED_OR_NONE, ANY),
    (kept_or_hunted, MACHINE, GOALS, STANDING), (is_kept_or_hunted, MACHINE, GOALS, STANDING, ANY),
)

CALLS_OF_TIMES = (
    (with_time, MACHINE, GOALS, MOST), (origins_of, MACHINE, GOALS), (timed_standing, MACHINE, GOALS, STANDING, MOST, PASSED),
    (within, MACHINE, GOALS, STANDING, MOST), (least_time, MACHINE, GOALS, STANDING, MOST), (time_paper, MACHINE, GOALS, STANDING, MOST),
    (is_time_paper, MACHINE, GOALS, STANDING, MOST, ANY),
)


class WrongValuesTest(Calls, unittest.TestCase):
    def test_calls_of_papers(self):
        for call, *parameters in CALLS_OF_PAPERS:
            self.look_at(call, parameters)

    def test_calls_of_keeping(self):
        for call, *parameters in CALLS_OF_KEEPING:
            self.look_at(call, parameters)

    def test_calls_of_times(self):
        for call, *parameters in CALLS_OF_TIMES:
            self.look_at(call, parameters)


class JudgedValuesTest(Calls, unittest.TestCase):
    """[0.5]: functions that judge a value raise nothing for it."""

    def assert_none(self, values, call, *arguments):
        for value in values:
            self.assertIs(call(*arguments, value), False)

    def pairs(self, kind, values):
        return tuple((kind, value) for value in values)

    def test_papers(self):
        self.assert_none(NOT_PAPERS, is_own_paper, LAMP, (1,))
        self.assert_none(NOT_FIELDS, is_foe_paper, LAMP, ())
        self.assertIs(is_own_paper(LAMP, (1,), PAPER), True)
        at, late = (0, (1, (1, 0))), (0, (1, (0, 2)))
        self.assert_none(NOT_PAIRS + NOT_INTEGERS + self.pairs("won", NOT_PAPERS) + self.pairs("held", NOT_FIELDS), is_outcome, LAMP, (1,), at)
        self.assertIs(is_outcome(LAMP, (1,), at, ("won", PAPER)), True)
        self.assertIs(is_outcome(LAMP, (1,), late, ("held", foe_paper(LAMP, (1,)))), True)
        self.assert_none(NOT_PAIRS + NOT_INTEGERS + self.pairs("in time", NOT_PAPERS) + self.pairs("too late", NOT_FIELDS), is_time_paper, LAMP, (1,), at, 3)

    def test_offers_and_answers(self):
        at = STANDING[0]
        self.assert_none(NOT_OFFERS, is_offer_by, LAMP, (1,), PAPER, at)
        self.assert_none(NOT_ANSWERS, is_answer_by, LAMP, (), EVERY, at, OFFER)
        self.assertIs(is_answer_by(LAMP, (), EVERY, at, OFFER, ("deed", (1, 1), 1)), True)
        self.assert_none([value for value in NOT_OFFERS if value is not None], is_keep_offer, LAMP, (), EVERY, at)
        self.assertIs(is_keep_offer(LAMP, (), EVERY, at, None), True)
        self.assert_none(NOT_ANSWERS + (("let",),), is_hunt_answer, LAMP, (2,), HUNT, at, OFFER)
        self.assertIs(is_hunt_answer(LAMP, (2,), HUNT, at, OFFER, ("deed", (1, 1), 1)), True)

    def test_kept_fields_and_hunts(self):
        at = STANDING[0]
        self.assert_none(NOT_FIELDS, is_kept_field, LAMP, ())
        self.assert_none(NOT_HUNTS, is_hunt, LAMP, (2,))
        self.assertIs(is_hunt(LAMP, (2,), HUNT), True)
        self.assert_none(NOT_PAIRS + NOT_INTEGERS + self.pairs("kept", NOT_FIELDS) + self.pairs("hunted", NOT_HUNTS), is_kept_or_hunted, LAMP, (2,), at)
        self.assertIs(is_kept_or_hunted(LAMP, (2,), at, ("hunted", HUNT)), True)
        self.assertIs(is_kept_or_hunted(LAMP, (), at, ("kept", EVERY)), True)

    def test_long_numbers(self):
        # Points and pauses that come of what is passed have any length.
        at = (0, (GREATEST, (GREATEST - 1, GREATEST // 2)))
        self.assertEqual(outcome(LAMP, (1,), at)[0], "won")
        self.assertEqual(offer_by(LAMP, (1,), PAPER, at)[1], 0)
        self.assertIs(is_offer_by(LAMP, (1,), PAPER, at, ((1, GREATEST), 0)), True)
        self.assertEqual(timed_standing(LAMP, (), at, 3, (1, GREATEST - 1))[1][0], GREATEST * (GREATEST - 1))


if __name__ == "__main__":
    unittest.main()
