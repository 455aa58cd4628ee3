"""[0.4] over the whole program: whatever is passed, bent in any part, an error of this package is raised, or there is an answer.

And [0.5]: functions that judge answer True or False, and raise nothing for their value; [0.2]: no call changes what it is passed.
"""

import unittest
from copy import deepcopy

from pauseplay.base.bounds import bound_sum, does_keep, is_bound, is_tighter, turned
from pauseplay.base.points import are_same, compare, fraction_sum, is_fraction, is_pause, is_point, later, lowest, set_back, shown, simplest
from pauseplay.check.checker import is_claim, opposite, takes
from pauseplay.errors import InvalidNumber, NothingToUndo, PlayError, Refused, TooMany, UnknownName
from pauseplay.house.desk import Desk, read_log
from pauseplay.lots.areas import are_equal, area_has, common, is_area, is_within_or_point, less, thinned, within_or_point
from pauseplay.lots.lots import everything, has_point, is_lot, is_lot_within, is_ring, is_rule, lot_or_ring, point_of, rules_of
from pauseplay.lots.moves import ahead_of_back, back_from, back_lot, cut, earlier_lot, freed_lot, later_lot, meet, pause_into
from pauseplay.machine.machines import Machine, deeds_at, limits, machine_fault, open_lot, placed, without_deed
from pauseplay.machine.runs import time_of
from pauseplay.side.products import bads_beside, deeds_told, goals_beside, joined_course, joined_standing, parted_course
from pauseplay.side.products import parted_standing, side_by_side
from pauseplay.texts.texts import play_text, read_machine, read_play, read_standing, standing_text, text_of
from tests.bent import bent_value
from tests.drawn import seeded
from tests.kinds import LAMP
from tests.test_checker import FINE
from tests.test_logs import WORKED
from tests.test_products import BELL, LIGHT
from tests.test_texts import GATE, NAMES, TEXT
from tests.test_wrong_papers import CALLS_OF_KEEPING, CALLS_OF_PAPERS, CALLS_OF_TIMES
from tests.test_wrong_values import CALLS_OF_GAMES, CALLS_OF_MACHINES

ERRORS = (PlayError, InvalidNumber, UnknownName, NothingToUndo, TooMany, Refused)

JUDGING = ("is_", "are_", "has_", "do_", "does_")

LOT = (((0, 1), (-1, 1), (0, 1)), ((3, 1), (0, 1), (3, 1)), ((3, 0), (0, 0), (0, 1)))

ONE = (((0, 1), (-1, 0)), ((3, 1), (0, 1)))

RULES = ((1, 0, (3, 1)), (0, 2, (-1, 0)), (2, 1, (1, 1)))

POINT = (2, (3, 5))

FIRST, LAST = ((((1, 1), 1),), (1, 2)), ((((1, 1), 0),), (1, 2))

CALLS = (
    (is_bound, (3, 1)), (bound_sum, (3, 1), (4, 0)), (is_tighter, (3, 1), None), (turned, (3, 1)), (does_keep, (3, 1), (5, 2)),
    (is_fraction, (3, 1)), (is_pause, (3, 1)), (lowest, (4, 6)), (fraction_sum, (4, 6), (1, 2)), (compare, (4, 6), (2, 3)), (simplest, (1, 3), 1, (1, 2), 0),
    (is_point, 2, POINT), (are_same, POINT, POINT), (later, POINT, (1, 3)), (set_back, POINT, (1, 2)), (shown, POINT, 1, 0),
    (is_rule, 2, RULES[0]), (lot_or_ring, 2, RULES), (is_ring, 2, RULES + ((2, 0, (0, 1)),), (1, 3)), (is_lot, LOT), (everything, 2), (has_point, LOT, POINT), (point_of, LOT),
    (is_lot_within, LOT, LOT), (rules_of, LOT), (meet, LOT, LOT), (cut, LOT, RULES[0]), (later_lot, LOT), (earlier_lot, LOT), (freed_lot, LOT, (1,)), (back_lot, LOT, (1, 2)),
    (ahead_of_back, LOT, (2,)), (pause_into, LOT, (2, (1, 0))), (back_from, LOT, (1,), (3, (0, 1))),
    (is_area, 2, (LOT,)), (area_has, (LOT, LOT), POINT), (common, (LOT,), (LOT,)), (less, (LOT,), (LOT,)), (thinned, (LOT, LOT)), (within_or_point, 2, (LOT,), (LOT,)),
    (is_within_or_point, 1, (everything(1),), (ONE,), ("point", (1, (5,)))), (is_within_or_point, *FINE["within"][0][1:], FINE["within"][1]), (are_equal, (LOT,), (LOT, LOT)),
    (machine_fault, 2, LAMP.places, LAMP.deeds), (Machine, 2, LAMP.places, LAMP.deeds), (limits, LAMP, 1), (open_lot, LAMP, 1), (deeds_at, LAMP, 0, "foe"), (placed, LAMP, (2, 0, 1)),
    (without_deed, LAMP, 1), (time_of, (((1, 2), 0), ((1, 3), 4))),
    (side_by_side, LIGHT, BELL, ((1, 0),)), (deeds_told, LIGHT, BELL, ((1, 0),)), (joined_standing, LIGHT, BELL, (1, (2, (1,))), (0, (3, (2,)))),
    (parted_standing, LIGHT, BELL, (1, (6, (3, 4)))), (parted_course, LIGHT, BELL, (), (0, (1, (0, 0))), ((((1, 1), 2), ((1, 2), 0)), (1, 1))),
    (joined_course, LIGHT, BELL, ((1, 0),), (1, (1, (0,))), FIRST, (0, (1, (0,))), LAST), (goals_beside, LIGHT, BELL, (0, 1)), (bads_beside, LIGHT, BELL, (1,), (0,)),
    (text_of, GATE, NAMES), (read_machine, TEXT), (standing_text, GATE, NAMES, (0, (4, (6, 8)))), (read_standing, GATE, NAMES, "done 0 7/3"),
    (play_text, GATE, NAMES, ((((3, 2), 0), ("deed", (2, 2), 1)), (((1, 1), 0), ("let",)))), (read_play, GATE, NAMES, "after 3/2 go but 1 ring\nafter 1 go let\n"),
    (read_log, WORKED), (Desk, LAMP),
) + tuple((is_claim, claim) for claim, _ in FINE.values()) + tuple((opposite, claim) for claim, _ in FINE.values()) + tuple((takes, *told) for told in FINE.values())

TOLD = tuple(
    (call, *[good for good, _, _ in parameters])
    for calls in (CALLS_OF_MACHINES, CALLS_OF_GAMES, CALLS_OF_PAPERS, CALLS_OF_KEEPING, CALLS_OF_TIMES) for call, *parameters in calls
)


class Told(tuple):
    """The name of an error that was raised, and of what it keeps."""


def answer_of(call, arguments):
    """What the call answers, or which error of this package it raises."""
    try:
        return call(*arguments)
    except ERRORS as error:
        return Told((error.__class__.__name__, *sorted(vars(error))))


def bent_often(random, value):
    """The value bent one to three times."""
    for _ in range(random.choice((1, 1, 2, 3))):
        value = bent_value(random, value)
    return value


class BentValuesTest(unittest.TestCase):
    def test_only_errors_of_this_package(self):
        random = seeded("bent values")
        for call, *good in CALLS + TOLD:
            for _ in range(60):
                at = random.randrange(len(good)) if good else 0
                arguments = good[:at] + [bent_often(random, good[at])] + good[at + 1:]
                with self.subTest(call=call.__name__, at=at):
                    answer_of(call, arguments)

    def test_judges_answer_for_every_value(self):
        random = seeded("judged values")
        for call, *good in CALLS + TOLD:
            if call.__name__.startswith(JUDGING) and call not in (is_tighter, are_equal, is_lot_within, are_same, does_keep, has_point):
                for _ in range(60):
                    value = bent_often(random, good[-1])
                    with self.subTest(call=call.__name__, value=value):
                        if call is takes or call.__code__.co_varnames[call.__code__.co_argcount - 1] == "value":
                            self.assertIsInstance(call(*good[:-1], value), bool)

    def test_no_call_changes_what_it_is_passed(self):
        random = seeded("unchanged")
        for call, *good in CALLS + TOLD:
            for _ in range(3):
                arguments = [bent_often(random, value) if random.random() < 0.3 else value for value in good]
                before = deepcopy(arguments)
                one = answer_of(call, arguments)
                self.assertEqual(arguments, before, call)
                # Equal calls return equal results.
                self.assertEqual(answer_of(call, arguments), one, call)

    def test_methods_of_desks(self):
        random = seeded("bent desks")
        desk = read_log(WORKED)
        for call, *good in (
            (desk.edit, (("put", 1, LAMP.deeds[2]), ("limits", 0, ((1, 0, (5, 1)),)), ("place", ()), ("take", 0), ("deed", 1, ("foe", 2, 0, ((0, 1, (-1, 0)),), (1,))))),
            (desk.watch, "b", (0, 1), (0, (2, (1,)))), (desk.unwatch, "b"), (desk.answer, "a"), (desk.paper, "a"), (desk.changed, "a"), (desk.undo, 1),
        ):
            for _ in range(150):
                at = random.randrange(len(good))
                log = desk.log()
                told = answer_of(call, good[:at] + [bent_often(random, good[at])] + good[at + 1:])
                if isinstance(told, Told):
                    self.assertEqual(desk.log(), log)
            self.assertIs(read_log(desk.log()) == desk, True)


if __name__ == "__main__":
    unittest.main()
