"""The examples of the document, each with the very answer that stands there."""

import unittest

from pauseplay.base.bounds import bound_sum, does_keep, is_tighter, turned
from pauseplay.base.points import are_same, later, set_back, shown, simplest
from pauseplay.errors import InvalidNumber, InvalidOperation
from pauseplay.lots.areas import are_equal, area_has, common, is_within_or_point, less, thinned, within_or_point
from pauseplay.lots.lots import everything, has_point, is_lot_within, is_ring, is_rule, lot_or_ring, rules_of
from pauseplay.lots.moves import ahead_of_back, back_from, back_lot, cut, earlier_lot, freed_lot, later_lot, meet, pause_into
from pauseplay.machine.machines import Machine, deeds_at, limits, machine_fault, open_lot, placed


class ExamplesOfStage1Test(unittest.TestCase):
    def test_bounds(self):
        self.assertEqual(
            repr([
                bound_sum((3, 1), (2, 0)), is_tighter((3, 0), (3, 1)), is_tighter(None, (9, 1)), turned((3, 1)),
                does_keep((3, 0), (3, 1)), does_keep((3, 0), (11, 4)),
            ]),
            "[(5, 0), True, False, (-3, 0), False, True]",
        )

    def test_simplest(self):
        self.assertEqual(
            repr([
                simplest((1, 3), 1, (1, 2), 0), simplest((1, 3), 0, (1, 2), 0), simplest((3, 2), 1, None, 0),
                simplest((0, 1), 0, (1, 100), 1),
            ]),
            "[(1, 3), (2, 5), (2, 1), (1, 100)]",
        )

    def test_points(self):
        self.assertEqual(
            repr([
                later((2, (1, 4)), (1, 3)), set_back((2, (1, 4)), (1,)), shown((2, (1, 4)), 2, 1),
                shown((2, (1, 4)), 0, 1), are_same((2, (1, 4)), (4, (2, 8))),
            ]),
            "[(6, (5, 14)), (1, (0, 2)), (3, 2), (-1, 2), True]",
        )

    def test_turned_none(self):
        with self.assertRaises(InvalidOperation):
            turned(None)


class ExamplesOfStage2Test(unittest.TestCase):
    def test_lots(self):
        self.assertEqual(
            repr([lot_or_ring(2, ((1, 0, (3, 1)), (2, 1, (1, 0)))), is_rule(2, (0, 3, (1, 1))), everything(1)]),
            "[('lot', (((0, 1), (0, 1), (0, 1)), ((3, 1), (0, 1), (3, 1)), ((4, 0), (1, 0), (0, 1)))), False, "
            "(((0, 1), (0, 1)), (None, (0, 1)))]",
        )

    def test_rings(self):
        self.assertEqual(
            repr([
                is_ring(1, ((1, 0, (1, 0)), (0, 1, (-1, 1))), (0, 1)), is_ring(1, ((1, 0, (-1, 1)),), (0, -1)),
                lot_or_ring(1, ((1, 0, (-1, 1)),))[0],
            ]),
            "[True, True, 'ring']",
        )

    def test_thin(self):
        THIN = lot_or_ring(1, ((1, 0, (1, 0)), (0, 1, (0, 0))))[1]
        self.assertEqual(
            repr([
                THIN, has_point(THIN, (2, (1,))), has_point(THIN, (1, (1,))), is_lot_within(THIN, everything(1)),
                rules_of(THIN),
            ]),
            "[(((0, 1), (0, 0)), ((1, 0), (0, 1))), True, False, True, ((0, 1, (0, 0)), (1, 0, (1, 0)))]",
        )


class ExamplesOfStage3Test(unittest.TestCase):
    def setUp(self):
        self.box = lot_or_ring(2, ((1, 0, (3, 1)), (0, 1, (-1, 1)), (2, 1, (0, 0)), (0, 2, (0, 1))))[1]

    def test_box(self):
        self.assertEqual(
            repr(self.box), "(((0, 1), (-1, 1), (0, 1)), ((3, 1), (0, 1), (3, 1)), ((3, 0), (0, 0), (0, 1)))"
        )

    def test_waiting(self):
        self.assertEqual(
            repr([later_lot(self.box), earlier_lot(self.box)]),
            "[(((0, 1), (-1, 1), (0, 1)), (None, (0, 1), (3, 1)), (None, (0, 0), (0, 1))), "
            "(((0, 1), (0, 0), (0, 1)), ((3, 1), (0, 1), (3, 1)), ((3, 0), (0, 0), (0, 1)))]",
        )

    def test_set_back(self):
        BOX = self.box
        self.assertEqual(
            repr([
                back_lot(BOX, (1,)) == cut(freed_lot(BOX, (1,)), (1, 0, (0, 1))), ahead_of_back(BOX, (2,)),
                ahead_of_back(BOX, (1,)),
            ]),
            "[True, (((0, 1), (-1, 1), (0, 1)), ((3, 1), (0, 1), (3, 1)), (None, None, (0, 1))), None]",
        )

    def test_pauses(self):
        BOX = self.box
        self.assertEqual(
            repr([
                pause_into(BOX, (2, (1, 0))), pause_into(BOX, (1, (0, 1))), back_from(BOX, (1,), (3, (0, 1))),
                back_from(BOX, (2,), (1, (7, 0))),
            ]),
            "[(1, 1), None, (3, (3, 1)), None]",
        )

    def test_meet(self):
        with self.assertRaises(InvalidOperation):
            meet(self.box, everything(1))


class ExamplesOfStage4Test(unittest.TestCase):
    def setUp(self):
        self.early, self.late = lot_or_ring(1, ((1, 0, (3, 1)),))[1], lot_or_ring(1, ((0, 1, (-2, 0)),))[1]

    def test_areas(self):
        EARLY, LATE = self.early, self.late
        self.assertEqual(
            repr([
                area_has((EARLY, LATE), (2, (7,))), are_equal((EARLY, LATE), (everything(1),)),
                thinned((EARLY, everything(1), LATE)) == (everything(1),),
            ]),
            "[True, True, True]",
        )

    def test_less_and_common(self):
        EARLY, LATE = self.early, self.late
        self.assertEqual(
            repr([
                less((LATE,), (everything(1),)), area_has(less((EARLY,), (LATE,)), (1, (2,))),
                area_has(common((EARLY,), (LATE,)), (1, (2,))),
            ]),
            "[(), True, False]",
        )

    def test_within(self):
        EARLY, LATE = self.early, self.late
        KNOTS = (("cut", (1, 0, (3, 1)), 1, 2), ("in", 0), ("in", 1))
        self.assertEqual(
            repr([
                is_within_or_point(1, (everything(1),), (EARLY, LATE), ("within", (0,), KNOTS)),
                within_or_point(1, (everything(1),), (EARLY, LATE))[0],
            ]),
            "[True, 'within']",
        )

    def test_point(self):
        EARLY, LATE = self.early, self.late
        self.assertEqual(
            repr([
                is_within_or_point(1, (everything(1),), (LATE,), ("point", (1, (2,)))),
                is_within_or_point(1, (LATE,), (EARLY,), ("point", (2, (6,)))),
            ]),
            "[True, False]",
        )

    def test_five_clocks(self):
        with self.assertRaises(InvalidNumber) as caught:
            within_or_point(5, (), ())
        self.assertEqual(caught.exception.given, 5)


class ExamplesOfStage5Test(unittest.TestCase):
    def setUp(self):
        self.gate = Machine(
            2,
            (((1, 0, (3, 1)),), ()),
            (
                ("own", 0, 1, ((0, 1, (-1, 1)), (2, 0, (2, 0))), (2,)),
                ("foe", 0, 0, ((1, 0, (1, 1)),), (1,)),
                ("foe", 1, 0, (), ()),
            ),
        )

    def test_gate(self):
        GATE = self.gate
        self.assertEqual(
            repr([str(GATE), GATE.most, deeds_at(GATE, 0, "foe"), limits(GATE, 1) == everything(2)]),
            "['machine of 2 clocks, 2 places, 3 deeds', 3, (1,), True]",
        )

    def test_lots(self):
        GATE = self.gate
        self.assertEqual(
            repr([open_lot(GATE, 2), limits(GATE, 0)]),
            "[(((0, 1), (0, 1), (0, 1)), ((3, 1), (0, 1), (3, 1)), (None, None, (0, 1))), "
            "(((0, 1), (0, 1), (0, 1)), ((3, 1), (0, 1), (3, 1)), (None, None, (0, 1)))]",
        )

    def test_faults(self):
        GATE = self.gate
        self.assertEqual(
            repr([
                machine_fault(1, ((),), (("own", 0, 1, (), ()),)), machine_fault(1, (((1, 0, (0, 0)),),), ()),
                placed(GATE, (1, 0)).deeds[2],
            ]),
            "[('deed', 0, 'goal'), ('place', 0), ('foe', 0, 1, (), ())]",
        )

    def test_never_open(self):
        self.assertIs(
            open_lot(Machine(1, ((),), (("own", 0, 0, ((0, 1, (-2, 1)), (1, 0, (1, 1))), ()),)), 0) is None, True
        )


if __name__ == "__main__":
    unittest.main()
