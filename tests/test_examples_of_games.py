"""The examples of the document under the stages 10 to 12, line by line, each with the very answer that stands there."""

import unittest

from tests.examples import Examples

STAGE_10 = r'''
>>> M = Machine(1, (((1, 0, (5, 1)),),), ())
>>> ONE, TWO, HIGH = [lot_or_ring(1, rules)[1] for rules in (((1, 0, (1, 1)), (0, 1, (-1, 1))), ((1, 0, (2, 0)), (0, 1, (-1, 0))), ((0, 1, (-2, 0)),))]
>>> [safe_pauses(M, (0, (2, (1,))), (TWO,)), safe_pauses(M, (0, (1, (1,))), (ONE,)), safe_pauses(M, (0, (1, (0,))), (HIGH, ONE)), safe_pauses(M, (0, (1, (2,))), ())]
[((1, 2), 1), (), ((1, 1), 0), ((3, 1), 1)]
>>> [pause_for(M, (0, (1, (0,))), (HIGH,), ()), pause_for(M, (0, (1, (0,))), (HIGH, ONE), (TWO,)), pause_for(M, (0, (2, (3,))), (HIGH,), (TWO,)), is_pause_for(M, (0, (1, (0,))), (ONE,), (TWO,), (2, 2))]
[(3, 1), (1, 1), None, True]
>>> [are_equal(way(M, 0, (HIGH, ONE), (TWO,)), (lot_or_ring(1, ((1, 0, (1, 1)),))[1], lot_or_ring(1, ((0, 1, (-2, 1)), (1, 0, (5, 1))))[1])), way(M, 0, (), (ONE,))]
[True, ()]
'''

STAGE_11 = r'''
>>> RACE = Machine(1, (((1, 0, (5, 1)),), (), ()), (("own", 0, 1, ((0, 1, (-2, 1)),), ()), ("foe", 0, 2, ((0, 1, (-3, 1)), (1, 0, (4, 0))), (1,)), ("own", 2, 0, (), ())))
>>> [offers_at(RACE, (0, (1, (1,)))), opens(RACE, (0, (1, (0,))), (7, 2)), is_offer(RACE, (0, (1, (0,))), ((1, 1), 0)), is_offer(RACE, (0, (1, (0,))), ((6, 3), 0))]
[((0, ((1, 1), 1, (4, 1), 1)),), (1,), False, True]
>>> [answers_to(RACE, (0, (1, (0,))), ((2, 1), 0)), answers_to(RACE, (0, (1, (0,))), ((3, 1), 0)), answers_to(RACE, (0, (2, (1,))), ((9, 2), 0))]
[(), ((1, ((3, 1), 1, (3, 1), 1)),), ((1, ((5, 2), 1, (7, 2), 0)),)]
>>> [behind(RACE, (0, (2, (1,))), ((9, 2), 0), ("deed", (5, 2), 1)), played(RACE, (0, (1, (0,))), (1,), ((((3, 1), 0), ("deed", (3, 1), 1)), (((1, 2), 2), ("let",)), (((3, 2), 0), ("let",))))]
[(2, (1, (0,))), (((0, (1, (0,))), (2, (1, (0,))), (0, (2, (1,))), (1, (1, (2,)))), 'won')]
>>> played(RACE, (0, (1, (0,))), (1,), ((((1, 1), 0), ("let",)),))
raises Refused(('offer', 0))
'''

STAGE_12 = r'''
>>> RACE = Machine(1, (((1, 0, (3, 1)),), (), ()), (("own", 0, 1, ((0, 1, (-2, 1)),), ()), ("foe", 0, 2, ((0, 1, (-2, 0)),), ()), ("foe", 0, 0, ((1, 0, (1, 0)),), (1,))))
>>> [won_or_held(RACE, (1,), (0, (2, (value,)))) for value in (0, 2, 3, 4, 5)]
[('held', 1), ('won', 1), ('won', 1), ('won', 1), ('held', 1)]
>>> [rank(RACE, (1,), (1, (1, (9,)))), rank(RACE, (1, 2), (0, (2, (5,)))), rank(RACE, (1, 2), (0, (1, (0,)))), len(rounds(RACE, (1,))), len(rounds(RACE, (2,)))]
[0, 1, None, 2, 1]
>>> [area_has(led_out(RACE, rounds(RACE, (1,))[0])[0], (1, (value,))) for value in (0, 1, 2, 3)]
[True, False, False, True]
'''


class ExamplesTest(Examples, unittest.TestCase):
    def test_stage_10(self):
        self.assert_examples(STAGE_10)

    def test_stage_11(self):
        self.assert_examples(STAGE_11)

    def test_stage_12(self):
        self.assert_examples(STAGE_12)


if __name__ == "__main__":
    unittest.main()
