"""The examples of the document under the stages 17 to 20, line by line, each with the very answer that stands there."""

import unittest

from tests.examples import Examples

STAGE_17 = r'''
>>> LAMP = Machine(1, ((), ((1, 0, (2, 1)),)), (("own", 0, 1, (), (1,)), ("foe", 1, 0, ((0, 1, (-1, 1)),), ())))
>>> BELL = Machine(1, ((),), (("foe", 0, 0, ((0, 1, (-1, 1)),), (1,)),))
>>> BOTH = side_by_side(LAMP, BELL, ())
>>> [BOTH.clocks, BOTH.places, len(BOTH.deeds), deeds_told(LAMP, BELL, ()), side_by_side(LAMP, BELL, ((1, 0),)).deeds[-1]]
[2, ((), ((1, 0, (2, 1)),)), 4, ((0, None), (1, None), (None, 0), (None, 0)), ('foe', 1, 0, ((0, 1, (-1, 1)), (0, 2, (-1, 1))), (2,))]
>>> [joined_standing(LAMP, BELL, (1, (2, (1,))), (0, (3, (2,)))), parted_course(LAMP, BELL, (), (0, (1, (0, 0))), ((((1, 1), 2), ((1, 2), 0)), (1, 1)))]
[(1, (6, (3, 4))), (((((3, 2), 0),), (1, 1)), ((((1, 1), 0),), (3, 2)))]
>>> joined_course(LAMP, BELL, (), (0, (1, (0,))), ((((3, 2), 0),), (1, 1)), (0, (1, (0,))), ((((1, 1), 0),), (1, 1)))
('apart', ('time',))
'''

STAGE_18 = r'''
>>> NAMES = (("x", "y"), ("wait", "done"), ("go", "ring"))
>>> GATE = Machine(2, (((1, 0, (3, 1)),), ()), (("own", 0, 1, ((0, 2, (-1, 0)), (1, 0, (2, 0))), (2,)), ("foe", 0, 0, (), ())))
>>> text_of(GATE, NAMES)
'clocks x y\nplace wait x <= 3\nplace done\nown go wait done y > 1 x < 2 back y\nfoe ring wait wait\n'
>>> [read_machine(text_of(GATE, NAMES)) == (GATE, NAMES), standing_text(GATE, NAMES, (0, (4, (6, 8)))), read_standing(GATE, NAMES, "done 0 7/3")]
[True, 'wait 3/2 2', (1, (3, (0, 7)))]
>>> play_text(GATE, NAMES, ((((3, 2), 0), ("deed", (2, 2), 1)), (((1, 1), 0), ("let",))))
'after 3/2 go but 1 ring\nafter 1 go let\n'
>>> read_machine("clocks x\nplace a x < 0\n")
raises ParseError(1)
'''

STAGE_19 = r'''
>>> GATE = Machine(1, ((), (), ()), (("own", 0, 1, ((0, 1, (-1, 1)),), ()), ("foe", 0, 2, ((0, 1, (-2, 0)),), ())))
>>> START, CLAIM = (0, (1, (0,))), ("won", GATE, (0, (1, (0,))), (1,))
>>> [len(kinds()), opposite(CLAIM)[0], opposite(("waits", GATE, START, (), ())), is_claim(("won", GATE, START, (3,))), is_claim(("held", GATE, (1,), START))]
[13, 'held', None, False, False]
>>> [takes(CLAIM, ("won", ((0, (((0, 1), (0, 1)), ((2, 1), (0, 1))), 0, (((0, 1), (-1, 1)), (None, (0, 1)))),))), takes(opposite(CLAIM), ("held", ((), (), (everything(1),)))), takes(("comes", GATE, START, (1,)), ("run", (((3, 2), 0),)))]
[True, False, True]
>>> [takes(("ring", 1, ((1, 0, (1, 0)), (0, 1, (-1, 1)))), (0, 1)), takes(("point", 1, ((1, 0, (1, 0)),)), (2, (1,))), takes(("waits", GATE, START, (everything(1),), ()), (5, 3))]
[True, True, True]
'''

STAGE_20 = r'''
>>> DESK = Desk(Machine(1, ((), ()), (("own", 0, 1, ((0, 1, (-1, 1)), (1, 0, (3, 0))), ()),)))
>>> DESK.watch("go", (1,), (0, (2, (1,))))
>>> DESK.edit((("put", 1, ("foe", 0, 0, ((0, 1, (-1, 0)),), (1,))), ("limits", 0, ((1, 0, (5, 1)),))))
>>> [DESK.answer("go"), DESK.changed("go"), DESK.machine.places, DESK.done]
[('won', 1), (('won', 1), ('won', 1)), (((1, 0, (5, 1)),), ()), 2]
>>> DESK.log().split("\n")[3:]
['deed own 0 1 1>=1,1<3 -', 'watch go 1 0 2 1', 'edit put 1 foe 0 0 1>1 1; limits 0 1<=5']
>>> DESK.edit((("take", 0), ("take", 4)))
raises Refused(('change', 1))
'''


class ExamplesTest(Examples, unittest.TestCase):
    def test_stage_17(self):
        self.assert_examples(STAGE_17)

    def test_stage_18(self):
        self.assert_examples(STAGE_18)

    def test_stage_19(self):
        self.assert_examples(STAGE_19)

    def test_stage_20(self):
        self.assert_examples(STAGE_20)


if __name__ == "__main__":
    unittest.main()
