"""[5.3], [5.4] and [5.5]: limits, where deeds are open, whose deeds start at a place, machines by other names."""

import unittest
from itertools import permutations

from pauseplay.base.points import later, set_back
from pauseplay.errors import InvalidMachine, InvalidNumber, InvalidOperation, InvalidPlaces
from pauseplay.lots.lots import everything, has_point, is_lot, lot_or_ring, point_of
from pauseplay.machine.machines import Machine, deeds_at, limits, open_lot, placed, without_deed
from tests.drawn import drawn_machine, is_in, keeps_all, looked_at, seeded
from tests.kinds import NOT_INTEGERS, NOT_MACHINES, Calls

GATE = Machine(
    2, (((1, 0, (3, 1)),), ()),
    (("own", 0, 1, ((0, 1, (-1, 1)), (2, 0, (2, 0))), (2,)), ("foe", 0, 0, ((1, 0, (1, 1)),), (1,)), ("foe", 1, 0, (), ())),
)

NOT_INDICES = (-1, 3, 12, 40, 10 ** 59) + NOT_INTEGERS


def is_open_told(machine, deed, point):
    """A plain look at the limits of the start, the rules, and the limits of the goal behind setting back."""
    _, start, goal, rules, back = machine.deeds[deed]
    return (
        keeps_all(point, machine.places[start])
        and keeps_all(point, rules)
        and keeps_all(set_back(point, back), machine.places[goal])
    )


class LimitsTest(Calls, unittest.TestCase):
    def test_the_points_within_the_limits(self):
        random = seeded("limits")
        for _ in range(60):
            machine = drawn_machine(random)
            for place, told in enumerate(machine.places):
                lot = limits(machine, place)
                with self.subTest(clocks=machine.clocks, limits=told):
                    self.assertIs(is_lot(lot), True)
                    self.assertEqual(("lot", lot), lot_or_ring(machine.clocks, told))
                    for point in looked_at(random, machine.clocks, (lot,)):
                        self.assertIs(has_point(lot, point), keeps_all(point, told))
                    self.assertIs(has_point(lot, (1, (0,) * machine.clocks)), True)

    def test_no_limits(self):
        for clocks in range(5):
            self.assertEqual(limits(Machine(clocks, ((),) * 12, ()), 11), everything(clocks))

    def test_ends(self):
        machine = Machine(1, (((1, 0, (0, 1)),), ((1, 0, (20, 0)),)), ())
        self.assertEqual(limits(machine, 0), (((0, 1), (0, 1)), ((0, 1), (0, 1))))
        self.assertEqual(limits(machine, 1), (((0, 1), (0, 1)), ((20, 0), (0, 1))))

    def test_wrong_values(self):
        for value in NOT_MACHINES:
            self.assert_refused(InvalidMachine, limits, value, 0)
            self.assert_refused(InvalidMachine, limits, value, None)
        for value in (2,) + NOT_INDICES:
            self.assert_number_refused(value, limits, GATE, value)


class OpenLotTest(Calls, unittest.TestCase):
    def test_just_the_points_at_which_the_deed_is_open(self):
        random = seeded("open")
        kinds = [0, 0]
        for _ in range(120):
            machine = drawn_machine(random)
            for deed in range(len(machine.deeds)):
                lot = open_lot(machine, deed)
                kinds[lot is None] += 1
                points = looked_at(random, machine.clocks, () if lot is None else (lot,))
                points += looked_at(random, machine.clocks, (limits(machine, machine.deeds[deed][1]),), 0)
                with self.subTest(places=machine.places, deed=machine.deeds[deed]):
                    self.assertTrue(lot is None or is_lot(lot))
                    for point in points:
                        self.assertIs(lot is not None and is_in(lot, point), is_open_told(machine, deed, point))
                    if lot is not None:
                        self.assertTrue(is_open_told(machine, deed, point_of(lot)))
        self.assertGreater(min(kinds), 20)

    def test_no_clocks(self):
        self.assertEqual(open_lot(Machine(0, ((), ()), (("own", 0, 1, (), ()),)), 0), (((0, 1),),))

    def test_rules_that_no_point_keeps(self):
        for rules in (((0, 1, (-2, 1)), (1, 0, (1, 1))), ((0, 1, (-2, 1)), (1, 0, (2, 0))), ((1, 0, (0, 0)),)):
            self.assertIsNone(open_lot(Machine(1, ((),), (("own", 0, 0, rules, ()),)), 0))
        self.assertIsNotNone(open_lot(Machine(1, ((),), (("own", 0, 0, ((0, 1, (-2, 1)), (1, 0, (2, 1))), ()),)), 0))

    def test_limits_of_the_start(self):
        machine = Machine(1, (((1, 0, (1, 1)),), ()), (("own", 0, 1, ((0, 1, (-2, 1)),), ()),))
        self.assertIsNone(open_lot(machine, 0))

    def test_limits_of_the_goal_are_asked_of_clocks_that_are_not_set_back(self):
        places = ((), ((1, 0, (1, 0)), (2, 0, (2, 1))))
        rules = ((0, 1, (-3, 1)),)
        self.assertIsNone(open_lot(Machine(2, places, (("own", 0, 1, rules, ()),)), 0))
        self.assertIsNone(open_lot(Machine(2, places, (("own", 0, 1, rules, (2,)),)), 0))
        lot = open_lot(Machine(2, places, (("own", 0, 1, rules, (1,)),)), 0)
        self.assertEqual(lot, lot_or_ring(2, ((0, 1, (-3, 1)), (2, 0, (2, 1))))[1])
        lot = open_lot(Machine(2, places, (("own", 0, 1, rules, (1, 2)),)), 0)
        self.assertEqual(lot, lot_or_ring(2, ((0, 1, (-3, 1)),))[1])

    def test_forty_deeds(self):
        machine = Machine(1, ((),), tuple(("own", 0, 0, ((0, 1, (-(at // 2), at % 2)),), ()) for at in range(40)))
        for at in range(40):
            self.assertEqual(open_lot(machine, at), (((0, 1), (-(at // 2), at % 2)), (None, (0, 1))))

    def test_what_is_not_true(self):
        # [5.5]: open at a point but not at a later one within the limits; not open where the rules hold.
        self.assertIs(is_in(open_lot(GATE, 1), (1, (1, 0))), True)
        self.assertIs(is_in(open_lot(GATE, 1), later((1, (1, 0)), (1, 1))), False)
        self.assertIs(is_in(limits(GATE, 0), later((1, (1, 0)), (1, 1))), True)
        self.assertIs(is_in(open_lot(GATE, 2), (1, (4, 0))), False)

    def test_wrong_values(self):
        for value in NOT_MACHINES:
            self.assert_refused(InvalidMachine, open_lot, value, 0)
        for value in NOT_INDICES:
            self.assert_number_refused(value, open_lot, GATE, value)
        self.assert_number_refused(0, open_lot, Machine(0, ((),), ()), 0)
        self.assert_refused(InvalidMachine, open_lot, None, None)


class DeedsAtTest(Calls, unittest.TestCase):
    def test_the_deeds_of_the_owner_that_start_at_the_place(self):
        random = seeded("deeds at")
        for _ in range(60):
            machine = drawn_machine(random)
            told = []
            for place in range(len(machine.places)):
                for owner in ("own", "foe"):
                    found = deeds_at(machine, place, owner)
                    self.assertEqual(list(found), sorted(set(found)))
                    self.assertIsInstance(found, tuple)
                    for index in found:
                        self.assertEqual(machine.deeds[index][:2], (owner, place))
                    told.extend(found)
            self.assertEqual(sorted(told), list(range(len(machine.deeds))))

    def test_ends(self):
        self.assertEqual([deeds_at(GATE, place, owner) for place in (0, 1) for owner in ("own", "foe")], [(0,), (1,), (), (2,)])
        self.assertEqual(deeds_at(Machine(0, ((),), (("own", 0, 0, (), ()),) * 40), 0, "own"), tuple(range(40)))

    def test_wrong_values(self):
        for value in NOT_MACHINES:
            self.assert_refused(InvalidMachine, deeds_at, value, 0, "own")
        for value in (2,) + NOT_INDICES:
            self.assert_number_refused(value, deeds_at, GATE, value, "own")
        for value in NOT_INTEGERS + ("Own", "", "all", ("own",), ["own"], 0, GATE):
            self.assert_refused(InvalidOperation, deeds_at, GATE, 0, value)

    def test_the_first_wrong_value_is_told(self):
        self.assert_refused(InvalidMachine, deeds_at, None, 9, None)
        self.assert_number_refused(9, deeds_at, GATE, 9, None)


class PlacedTest(Calls, unittest.TestCase):
    def test_the_same_machine_by_new_indices(self):
        random = seeded("placed")
        for _ in range(40):
            machine = drawn_machine(random)
            for order in permutations(range(len(machine.places))):
                found = placed(machine, order)
                with self.subTest(order=order):
                    self.assertEqual(found.clocks, machine.clocks)
                    self.assertEqual(found.places, tuple(machine.places[place] for place in order))
                    for new, old in zip(found.deeds, machine.deeds):
                        self.assertEqual((new[0], new[3], new[4]), (old[0], old[3], old[4]))
                        self.assertEqual((order[new[1]], order[new[2]]), (old[1], old[2]))
                    self.assertEqual(len(found.deeds), len(machine.deeds))
                    for deed in range(len(machine.deeds)):
                        self.assertEqual(open_lot(found, deed), open_lot(machine, deed))

    def test_an_order_that_is_not_its_own_opposite(self):
        machine = Machine(1, ((), ((1, 0, (1, 1)),), ((1, 0, (2, 1)),)), (("own", 0, 1, (), ()), ("foe", 2, 2, (), ())))
        found = placed(machine, (1, 2, 0))
        self.assertEqual(found.places, (((1, 0, (1, 1)),), ((1, 0, (2, 1)),), ()))
        self.assertEqual(found.deeds, (("own", 2, 0, (), ()), ("foe", 1, 1, (), ())))
        self.assertEqual(placed(found, (2, 0, 1)), machine)
        self.assertEqual(placed(machine, (0, 1, 2)), machine)

    def test_wrong_values(self):
        for value in NOT_MACHINES:
            self.assert_refused(InvalidMachine, placed, value, (0, 1))
        for value in (
            (), (0,), (1,), (0, 0), (1, 1), (0, 2), (-1, 0), (0, 1, 1), (0, 1, 2), [0, 1], {0: 1, 1: 0}, "01", 0, None, True,
            (False, True), (0, True), (1, False), ((0, 1),), (0, "1"), (0, None), (0, [1]), (0, 10 ** 60),
        ):
            self.assert_refused(InvalidPlaces, placed, GATE, value)
        self.assert_refused(InvalidMachine, placed, None, None)


class WithoutDeedTest(Calls, unittest.TestCase):
    def test_the_deeds_but_this_one(self):
        random = seeded("without")
        for _ in range(40):
            machine = drawn_machine(random)
            for deed in range(len(machine.deeds)):
                found = without_deed(machine, deed)
                self.assertEqual((found.clocks, found.places), (machine.clocks, machine.places))
                self.assertEqual(found.deeds, machine.deeds[:deed] + machine.deeds[deed + 1:])
                lots = [open_lot(machine, index) for index in range(len(machine.deeds))]
                self.assertEqual(
                    [open_lot(found, index) for index in range(len(found.deeds))], lots[:deed] + lots[deed + 1:]
                )

    def test_nothing_is_changed(self):
        self.assertEqual(len(without_deed(GATE, 2).deeds), 2)
        self.assertEqual(len(GATE.deeds), 3)
        self.assertEqual(without_deed(Machine(0, ((),), (("own", 0, 0, (), ()),)), 0), Machine(0, ((),), ()))

    def test_wrong_values(self):
        for value in NOT_MACHINES:
            self.assert_refused(InvalidMachine, without_deed, value, 0)
        for value in NOT_INDICES:
            self.assert_number_refused(value, without_deed, GATE, value)
        self.assert_number_refused(0, without_deed, Machine(0, ((),), ()), 0)
        self.assert_refused(InvalidMachine, without_deed, None, None)
        self.assert_refused(InvalidNumber, without_deed, GATE, None)


if __name__ == "__main__":
    unittest.main()
