"""The examples of the document under the stages 6 to 9, line by line, each with the very answer that stands there."""

import unittest

from tests.examples import Examples

STAGE_6 = r'''
>>> M = Machine(2, (((1, 0, (3, 1)),), ()), (("own", 0, 1, ((0, 2, (-1, 1)), (1, 0, (2, 0))), (1,)), ("foe", 1, 0, (), (1, 2))))
>>> AT = (0, (2, (1, 1)))
>>> [is_standing(M, AT), waited(M, AT, (1, 2)), done(M, (0, (1, (1, 1))), 0), longest(M, AT), longest(M, (1, (1, (0, 9)))), pauses_for(M, AT, 0)]
[True, (0, (1, (1, 1))), (1, (1, (0, 1))), ((5, 2), 1), None, ((1, 2), 1, (3, 2), 0)]
>>> [run(M, AT, (((1, 1), 0), ((0, 1), 1))), time_of((((1, 2), 0), ((1, 3), 1))), pauses_for(M, AT, 1)]
[((0, (2, (1, 1))), (1, (2, (0, 3))), (0, (1, (0, 0)))), (5, 6), None]
>>> run(M, AT, (((1, 1), 0), ((0, 1), 0)))
raises Refused(('move', 1, ('start',)))
'''

STAGE_7 = r'''
>>> [class_of((4, (1, 6)), 2), class_of((1, (3, 2)), 2), next_class(2, 2, ((3, 2), (2,), ())), next_class(2, 2, ((0, 1), (), ((1,), (2,)))), how_many(2, 1)]
[((0, 1), (), ((1,), (2,))), ((3, 2), (2,), ()), ((3, 3), (), ()), ((0, 2), (2,), ((1,),)), 18]
>>> [point_in(2, 2, ((0, 1), (), ((1,), (2,)))), are_alike((4, (1, 6)), (10, (1, 19)), 2), back_class(2, 2, ((0, 1), (), ((1,), (2,))), (2,)), all_classes(1, 0)]
[(3, (1, 5)), True, ((0, 0), (2,), ((1,),)), (((0,), (1,), ()), ((1,), (), ()))]
>>> [len(classes_waited(1, 2, ((0,), (1,), ()))), lot_of_class(1, 2, ((1,), (), ((1,),))), is_class(1, 2, ((2,), (), ((1,),)))]
[6, (((0, 1), (-1, 0)), ((2, 0), (0, 1))), False]
'''

STAGE_8 = r'''
>>> LAMP = Machine(1, (((1, 0, (3, 1)),), ()), (("own", 0, 1, ((0, 1, (-1, 0)),), ()), ("foe", 0, 0, ((1, 0, (2, 0)),), (1,))))
>>> TWO = lot_or_ring(1, ((1, 0, (2, 1)), (0, 1, (-2, 1))))[1]
>>> [are_equal(behind_wait(LAMP, 0, (TWO,)), (lot_or_ring(1, ((0, 1, (-2, 1)), (1, 0, (3, 1))))[1],)), are_equal(ahead_of_wait(LAMP, 0, (TWO,)), (lot_or_ring(1, ((1, 0, (2, 1)),))[1],))]
[True, True]
>>> [are_equal(behind_deed(LAMP, 0, (TWO,)), (TWO,)), ahead_of_deed(LAMP, 1, (TWO,)), area_has(ahead_of_deed(LAMP, 0, (everything(1),)), (1, (1,))), area_has(behind_deed(LAMP, 1, (everything(1),)), (7, (0,)))]
[True, (), False, True]
>>> ALL = places_field(LAMP, (0, 1))
>>> [rest(LAMP, ALL), are_equal_fields(LAMP, rest(LAMP, rest(LAMP, (((TWO,), ())))), (((TWO,), ()))), field_has(LAMP, rest(LAMP, ((TWO,), ())), (0, (1, (2,)))), is_field(LAMP, ((everything(1),), ()))]
[((), ()), True, False, False]
'''

STAGE_9 = r'''
>>> TURN = Machine(1, (((1, 0, (2, 1)),), (), ()), (("own", 0, 0, ((0, 1, (-1, 1)),), (1,)), ("foe", 0, 1, ((0, 1, (-2, 1)),), ()), ("own", 1, 2, ((1, 0, (1, 0)),), ())))
>>> [fewest_moves(TURN, (0, (1, (0,))), (1,)), fewest_moves(TURN, (1, (2, (1,))), (2,)), fewest_moves(TURN, (0, (1, (0,))), (2,)), fewest_moves(TURN, (2, (1, (9,))), (2,))]
[1, 1, None, 0]
>>> [run_or_closed(TURN, (0, (1, (0,))), (1,)), run_or_closed(TURN, (0, (1, (0,))), (2,))[0], is_run_or_closed(TURN, (0, (1, (0,))), (1,), ("run", (((1, 1), 0), ((2, 1), 1))))]
[('run', (((2, 1), 1),)), 'closed', True]
>>> [is_closed(TURN, ((), (), (everything(1),))), is_closed(TURN, ((), (everything(1),), ())), field_has(TURN, coming(TURN, (2,)), (1, (1, (1,))))]
[True, False, False]
'''


class ExamplesTest(Examples, unittest.TestCase):
    def test_stage_6(self):
        self.assert_examples(STAGE_6)

    def test_stage_7(self):
        self.assert_examples(STAGE_7)

    def test_stage_8(self):
        self.assert_examples(STAGE_8)

    def test_stage_9(self):
        self.assert_examples(STAGE_9)


if __name__ == "__main__":
    unittest.main()
