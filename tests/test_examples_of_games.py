"""The examples of the document under the stages 10 to 16, line by line, each with the very answer that stands there."""

import unittest

from tests.examples import Examples

STAGE_10 = r'''
>>> M = Machine(1, (((1, 0, (5, 1)),),), ())
>>> ONE, TWO, HIGH = [lot_or_ring(1, rules)[1] for rules in (((1, 0, (1, 1)), (0, 1, (-1, 1))), ((1, 0, (2, 0)), (0, 1, (-1, 0))), ((0, 1, (-2, 0)),))]
>>> [safe_pauses(M, (0, (2, (1,))), (TWO,)), safe_pauses(M, (0, (1, (1,))), (ONE,)), safe_pauses(M, (0, (1, (0,))), (HIGH, ONE)), safe_pauses(M, (0, (1, (2,))), ())]
[((1, 2), 1), (), ((1, 1), 0), ((3, 1), 1)]
>>> [pause_for(M, (0, (1, (0,))), (HIGH,), ()), pause_for(M, (0, (1, (0,))), (HIGH, ONE), (TWO,)), pause_for(M, (0, (2, (3,))), (HIGH,), (TWO,)), is_pause_for(M, (0, (1, (0,))), (ONE,), (TWO,), (2, 2))]
[(3, 1), (1, 1), None, True]
>>> [are_equal(way(M, 0, (HIGH, ONE), (TWO,)), (lot_or_ring(1, ((1, 0, (1, 1)),))[1], lot_or_ring(1, ((0, 1, (-2, 1)), (1, 0, (5, 1))))[1])), way(M, 0, (), (ONE,))]
[True, ()]
'''

STAGE_11 = r'''
>>> RACE = Machine(1, (((1, 0, (5, 1)),), (), ()), (("own", 0, 1, ((0, 1, (-2, 1)),), ()), ("foe", 0, 2, ((0, 1, (-3, 1)), (1, 0, (4, 0))), (1,)), ("own", 2, 0, (), ())))
>>> [offers_at(RACE, (0, (1, (1,)))), opens(RACE, (0, (1, (0,))), (7, 2)), is_offer(RACE, (0, (1, (0,))), ((1, 1), 0)), is_offer(RACE, (0, (1, (0,))), ((6, 3), 0))]
[((0, ((1, 1), 1, (4, 1), 1)),), (1,), False, True]
>>> [answers_to(RACE, (0, (1, (0,))), ((2, 1), 0)), answers_to(RACE, (0, (1, (0,))), ((3, 1), 0)), answers_to(RACE, (0, (2, (1,))), ((9, 2), 0))]
[(), ((1, ((3, 1), 1, (3, 1), 1)),), ((1, ((5, 2), 1, (7, 2), 0)),)]
>>> [behind(RACE, (0, (2, (1,))), ((9, 2), 0), ("deed", (5, 2), 1)), played(RACE, (0, (1, (0,))), (1,), ((((3, 1), 0), ("deed", (3, 1), 1)), (((1, 2), 2), ("let",)), (((3, 2), 0), ("let",))))]
[(2, (1, (0,))), (((0, (1, (0,))), (2, (1, (0,))), (0, (2, (1,))), (1, (1, (2,)))), 'won')]
>>> played(RACE, (0, (1, (0,))), (1,), ((((1, 1), 0), ("let",)),))
raises Refused(('offer', 0))
'''

STAGE_12 = r'''
>>> RACE = Machine(1, (((1, 0, (3, 1)),), (), ()), (("own", 0, 1, ((0, 1, (-2, 1)),), ()), ("foe", 0, 2, ((0, 1, (-2, 0)),), ()), ("foe", 0, 0, ((1, 0, (1, 0)),), (1,))))
>>> [won_or_held(RACE, (1,), (0, (2, (value,)))) for value in (0, 2, 3, 4, 5)]
[('held', 1), ('won', 1), ('won', 1), ('won', 1), ('held', 1)]
>>> [rank(RACE, (1,), (1, (1, (9,)))), rank(RACE, (1, 2), (0, (2, (5,)))), rank(RACE, (1, 2), (0, (1, (0,)))), len(rounds(RACE, (1,))), len(rounds(RACE, (2,)))]
[0, 1, None, 2, 1]
>>> [area_has(led_out(RACE, rounds(RACE, (1,))[0])[0], (1, (value,))) for value in (0, 1, 2, 3)]
[True, False, False, True]
'''

STAGE_13 = r'''
>>> GATE = Machine(1, ((), (), ()), (("own", 0, 1, ((0, 1, (-1, 1)),), ()), ("foe", 0, 2, ((0, 1, (-2, 0)),), ())))
>>> LOW, FROM = (((0, 1), (0, 1)), ((2, 1), (0, 1))), (((0, 1), (-1, 1)), (None, (0, 1)))
>>> PAPER = ((0, LOW, 0, FROM),)
>>> [is_own_paper(GATE, (1,), PAPER), is_own_paper(GATE, (1,), ((0, FROM, 0, FROM),)), are_equal(paper_field(GATE, (1,), PAPER)[0], (LOW,)), own_paper(GATE, (2,))]
[True, False, True, ()]
>>> [offer_by(GATE, (1,), PAPER, (0, (2, (1,)))), row_at(GATE, (1,), PAPER, (0, (2, (3,)))), row_at(GATE, (1,), PAPER, (0, (2, (5,)))), is_offer_by(GATE, (1,), PAPER, (0, (2, (1,))), ((1, 2), 0)), is_offer_by(GATE, (1,), PAPER, (0, (2, (1,))), ((7, 4), 0))]
[((1, 1), 0), 0, None, True, False]
>>> offer_by(GATE, (1,), ((0, FROM, 0, FROM),), (0, (1, (0,))))
raises InvalidOperation
'''

STAGE_14 = r'''
>>> GATE = Machine(1, ((), (), ()), (("own", 0, 1, ((0, 1, (-1, 1)),), ()), ("foe", 0, 2, ((0, 1, (-2, 0)),), ())))
>>> ALL, HIGH = (((0, 1), (0, 1)), (None, (0, 1))), (((0, 1), (-2, 0)), (None, (0, 1)))
>>> HELD = ((HIGH,), (), (ALL,))
>>> [are_equal_fields(GATE, foe_paper(GATE, (1,)), HELD), is_foe_paper(GATE, (1,), HELD), is_foe_paper(GATE, (1,), ((HIGH,), (), ())), is_foe_paper(GATE, (1,), ((), (), (ALL,)))]
[True, True, False, True]
>>> [answer_by(GATE, (1,), HELD, (0, (1, (3,))), ((0, 1), 0)), outcome(GATE, (1,), (0, (2, (5,))))[0], outcome(GATE, (1,), (0, (1, (2,))))[0]]
[('deed', (0, 1), 1), 'held', 'won']
>>> is_outcome(GATE, (1,), (0, (1, (2,))), ("won", ((0, (((0, 1), (0, 1)), ((2, 1), (0, 1))), 0, (((0, 1), (-1, 1)), (None, (0, 1)))),)))
True
'''

STAGE_15 = r'''
>>> WATCH = Machine(1, ((), ()), (("own", 0, 0, ((0, 1, (-1, 1)),), (1,)), ("foe", 0, 1, ((0, 1, (-1, 0)),), ())))
>>> LOW, HIGH = (((0, 1), (0, 1)), ((1, 1), (0, 1))), (((0, 1), (-1, 0)), (None, (0, 1)))
>>> [is_kept_field(WATCH, (1,), ((LOW,), ())), are_equal_fields(WATCH, kept_field(WATCH, (1,)), ((LOW,), ())), is_hunt(WATCH, (1,), (((HIGH,), ()),)), is_hunt(WATCH, (1,), (((LOW,), ()),))]
[True, True, True, False]
>>> [keep_offer(WATCH, (1,), ((LOW,), ()), (0, (2, (1,)))), is_keep_offer(WATCH, (1,), ((LOW,), ()), (0, (2, (1,))), None), kept_or_hunted(WATCH, (1,), (0, (1, (2,))))[0]]
[((1, 2), 0), False, 'hunted']
>>> [hunt_answer(WATCH, (1,), (((HIGH,), ()),), (0, (2, (3,))), offer) for offer in (None, ((1, 1), 0))]
[('deed', (0, 1), 1), ('deed', (0, 1), 1)]
'''

STAGE_16 = r'''
>>> DOOR = Machine(1, (((1, 0, (3, 1)),), ()), (("own", 0, 1, ((0, 1, (-2, 0)),), ()), ("foe", 0, 0, ((1, 0, (1, 1)),), (1,))))
>>> [least_time(DOOR, (1,), (0, (2, (3,))), 5), least_time(DOOR, (1,), (0, (1, (1,))), 5), within(DOOR, (1,), (0, (2, (3,))), 0), least_time(DOOR, (1,), (1, (1, (9,))), 5)]
[((1, 2), 0), None, False, ((0, 1), 1)]
>>> TIMED, GOALS = with_time(DOOR, (1,), 5)
>>> [TIMED.clocks, len(TIMED.places), GOALS, TIMED.deeds[0][3], origins_of(DOOR, (1,)), timed_standing(DOOR, (1,), (0, (2, (3,))), 5, (1, 3))]
[2, 3, (1,), ((0, 1, (-2, 0)), (2, 0, (5, 1))), (0, 1), (0, (6, (9, 2)))]
>>> [time_paper(DOOR, (1,), (0, (1, (1,))), 5)[0], time_paper(DOOR, (1,), (0, (2, (3,))), 1)[0], is_time_paper(DOOR, (1,), (0, (1, (1,))), 5, ("too late", ((), (), ())))]
['too late', 'in time', False]
'''


class ExamplesTest(Examples, unittest.TestCase):
    def test_stage_10(self):
        self.assert_examples(STAGE_10)

    def test_stage_11(self):
        self.assert_examples(STAGE_11)

    def test_stage_12(self):
        self.assert_examples(STAGE_12)

    def test_stage_13(self):
        self.assert_examples(STAGE_13)

    def test_stage_14(self):
        self.assert_examples(STAGE_14)

    def test_stage_15(self):
        self.assert_examples(STAGE_15)

    def test_stage_16(self):
        self.assert_examples(STAGE_16)


if __name__ == "__main__":
    unittest.main()
