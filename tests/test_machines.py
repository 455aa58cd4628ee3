"""[5.1], [5.2] and [5.5]: machines, their faults, their properties, equality and text."""

import unittest

from pauseplay.errors import InvalidMachine
from pauseplay.lots.lots import everything
from pauseplay.machine import machines
from pauseplay.machine.machines import Machine, machine_fault, open_lot
from tests.drawn import drawn_machine, seeded
from tests.kinds import NOT_BOUNDS, NOT_CLOCK_NUMBERS, NOT_INTEGERS, NOT_RULES, Calls

GATE = Machine(
    2, (((1, 0, (3, 1)),), ()),
    (("own", 0, 1, ((0, 1, (-1, 1)), (2, 0, (2, 0))), (2,)), ("foe", 0, 0, ((1, 0, (1, 1)),), (1,)), ("foe", 1, 0, (), ())),
)

NOT_TUPLES = (None, True, False, 0, 1, "", "ab", [], {}, [()], {0: 1}, GATE)

# Limits of no place with two clocks.
NOT_LIMITS = (
    NOT_TUPLES
    + tuple((rule,) for rule in NOT_RULES)
    + tuple(((1, 0, bound),) for bound in NOT_BOUNDS + (None,))
    + (((1, 0, (0, 0)),), ((1, 0, (3, 1)), (2, 0, (0, 0))), ((1, 0, (21, 1)),), ((1, 0, (21, 0)),), ((1, 0, (-1, 1)),))
    + (((0, 1, (0, 1)),), ((0, 1, (-1, 1)),), ((1, 2, (1, 1)),), ((3, 0, (1, 1)),), ((2, 0, (1, 1)), (1, 0, (1, 1))))
    + (((1, 0, (1, 1)), (1, 0, (1, 1))), ((1, 0, (1, 1)), (1, 0, (2, 1))), ((1, 0, (1, 1)), ()), (((1, 0, (1, 1)),),))
    + ((1, 0, (1, 1)), [(1, 0, (1, 1))], ([1, 0, (1, 1)],), ((1, 0, [1, 1]),), ((1, False, (1, 1)),), ((True, 0, (1, 1)),))
)

# Rules of no deed with two clocks.
NOT_RULES_OF_DEED = (
    NOT_TUPLES
    + tuple((rule,) for rule in NOT_RULES)
    + tuple(((0, 1, bound),) for bound in NOT_BOUNDS + (None,))
    + (((1, 0, (21, 1)),), ((1, 0, (-1, 1)),), ((0, 1, (1, 1)),), ((0, 1, (-21, 1)),), ((1, 2, (1, 1)),), ((2, 1, (-1, 1)),))
    + (((3, 0, (1, 1)),), ((0, 3, (-1, 1)),), ((1, 0, (1, 1)), (0, 1, (-1, 1))), ((0, 2, (-1, 1)), (0, 1, (-1, 1))))
    + (((1, 0, (1, 0)), (1, 0, (1, 1))), ((0, 1, (-2, 1)), (0, 1, (-1, 1))), ((0, 1, (-1, 1)), (0, 1, (-1, 1))))
    + ((0, 1, (-1, 1)), [(0, 1, (-1, 1))], ([0, 1, (-1, 1)],), ((0, 1, [-1, 1]),), ((False, 1, (-1, 1)),))
)

NOT_BACK = (
    NOT_TUPLES
    + tuple((part,) for part in NOT_INTEGERS)
    + ((0,), (3,), (-1,), (1, 1), (2, 1), (1, 2, 3), (0, 1), ((1,),), ([1],), [1], (1, True), (1, 2, 2))
)

NOT_INDICES = (-1, 2, 12, 10 ** 59) + NOT_INTEGERS


class Faults(Calls, unittest.TestCase):
    def assert_fault(self, fault, clocks, places, deeds):
        with self.subTest():
            self.assertEqual(repr(machine_fault(clocks, places, deeds)), repr(fault))
            if fault is None:
                self.assertEqual(Machine(clocks, places, deeds).clocks, clocks)
            else:
                self.assert_refused(InvalidMachine, Machine, clocks, places, deeds)


class ClocksPlacesDeedsTest(Faults):
    def test_constants(self):
        self.assertEqual((machines.MOST_PLACES, machines.MOST_DEEDS, machines.MOST_NUMBER), (12, 40, 20))

    def test_clocks(self):
        for clocks in range(5):
            self.assert_fault(None, clocks, ((),), ())
        for value in NOT_CLOCK_NUMBERS:
            self.assert_fault(("clocks",), value, ((),), ())

    def test_places(self):
        for many in range(1, 13):
            self.assert_fault(None, 1, ((),) * many, ())
        for value in ((), ((),) * 13, [()], [], {}, None, 1, True, "ab", GATE):
            self.assert_fault(("places",), 1, value, ())

    def test_deeds(self):
        deed = ("own", 0, 0, (), ())
        for many in (0, 1, 2, 40):
            self.assert_fault(None, 1, ((),), (deed,) * many)
        for value in ((deed,) * 41, [deed], [], {}, None, 1, False, "ab", GATE):
            self.assert_fault(("deeds",), 1, ((),), value)

    def test_they_are_asked_ahead_of_each_place_and_deed(self):
        self.assert_fault(("deeds",), 1, (None,), None)
        self.assert_fault(("places",), 1, (None,) * 13, (None,) * 41)
        self.assert_fault(("clocks",), 5, None, None)
        self.assert_fault(("deeds",), 1, (None,) * 12, (None,) * 41)
        self.assert_fault(("place", 0), 1, (None,) * 12, (None,) * 40)


class LimitsTest(Faults):
    def test_limits(self):
        for limits in (
            (), ((1, 0, (0, 1)),), ((1, 0, (20, 1)),), ((1, 0, (20, 0)),), ((1, 0, (1, 0)),),
            ((1, 0, (3, 1)), (2, 0, (3, 1))), ((1, 0, (9, 0)), (2, 0, (2, 1))), ((2, 0, (9, 0)),),
        ):
            self.assert_fault(None, 2, (limits,), ())
        for clocks in range(5):
            self.assert_fault(None, clocks, (tuple((clock, 0, (clock, 1)) for clock in range(1, clocks + 1)),), ())

    def test_wrong_limits(self):
        for value in NOT_LIMITS:
            self.assert_fault(("place", 0), 2, (value,), ())
            self.assert_fault(("place", 1), 2, ((), value), ())
        self.assert_fault(("place", 0), 0, (((1, 0, (1, 1)),),), ())

    def test_the_first_of_two_wrong_places(self):
        self.assert_fault(("place", 1), 1, ((), None, ((0, 1, (0, 1)),)), ())
        self.assert_fault(("place", 11), 1, ((),) * 11 + (None,), (None,))


class DeedsTest(Faults):
    def deed(self, **changes):
        parts = {"owner": "own", "start": 0, "goal": 1, "rules": (), "back": ()}
        parts.update(changes)
        return tuple(parts.values())

    def assert_deed(self, fault, **changes):
        fault = None if fault is None else ("deed", 0, fault)
        self.assert_fault(fault, 2, ((), ()), (self.deed(**changes),))

    def test_owners(self):
        for owner in ("own", "foe"):
            self.assert_deed(None, owner=owner)
        for value in NOT_INTEGERS + ("Own", "own ", "", "foes", ("own",), ["own"], 0, 1, GATE):
            self.assert_deed("owner", owner=value)

    def test_starts_and_goals(self):
        for index in (0, 1):
            self.assert_deed(None, start=index)
            self.assert_deed(None, goal=index)
        for value in NOT_INDICES:
            self.assert_deed("start", start=value)
            self.assert_deed("goal", goal=value)
        self.assert_fault(None, 0, ((),) * 12, (("foe", 11, 11, (), ()),))
        self.assert_fault(("deed", 0, "start"), 0, ((),) * 12, (("foe", 12, 12, (), ()),))

    def test_rules(self):
        for rules in (
            (), ((1, 0, (0, 0)),), ((1, 0, (0, 1)),), ((1, 0, (20, 0)),), ((1, 0, (20, 1)),), ((0, 1, (0, 0)),),
            ((0, 1, (0, 1)),), ((0, 1, (-20, 0)),), ((0, 2, (-20, 1)),), ((0, 1, (-1, 1)), (0, 2, (-5, 1)), (1, 0, (1, 1)), (2, 0, (0, 1))),
            ((0, 2, (-3, 0)), (1, 0, (2, 0))), ((0, 1, (-3, 1)), (1, 0, (2, 1))),
        ):
            self.assert_deed(None, rules=rules)
        for value in NOT_RULES_OF_DEED:
            self.assert_deed("rules", rules=value)
        self.assert_fault(("deed", 0, "rules"), 0, ((),), (("own", 0, 0, ((1, 0, (1, 1)),), ()),))

    def test_back(self):
        for back in ((), (1,), (2,), (1, 2)):
            self.assert_deed(None, back=back)
        for value in NOT_BACK:
            self.assert_deed("back", back=value)
        self.assert_fault(None, 4, ((),), (("own", 0, 0, (), (1, 2, 3, 4)),))
        self.assert_fault(("deed", 0, "back"), 0, ((),), (("own", 0, 0, (), (1,)),))

    def test_deeds_that_are_none_at_all(self):
        for value in NOT_TUPLES + ((), ("own",), ("own", 0, 1, ()), ("own", 0, 1, (), (), ()), ["own", 0, 1, (), ()]):
            self.assert_fault(("deed", 0, "deed"), 2, ((), ()), (value,))
            self.assert_fault(("deed", 1, "deed"), 2, ((), ()), (self.deed(), value))

    def test_the_first_of_two_wrong_parts(self):
        wrong = {"owner": None, "start": None, "goal": None, "rules": None, "back": None}
        for part in list(wrong):
            self.assert_deed(part, **wrong)
            del wrong[part]
        self.assert_deed(None, **wrong)

    def test_the_first_of_two_wrong_deeds(self):
        good, bad = self.deed(), self.deed(back=None)
        self.assert_fault(("deed", 1, "back"), 2, ((), ()), (good, bad, None))
        self.assert_fault(("deed", 1, "deed"), 2, ((), ()), (good, None, bad))
        self.assert_fault(("deed", 39, "back"), 2, ((), ()), (good,) * 39 + (bad,))

    def test_places_are_asked_ahead_of_deeds(self):
        self.assert_fault(("place", 1), 2, ((), None), (None,))


class MachineTest(Faults):
    def test_properties(self):
        places, deeds = (((1, 0, (3, 1)),), ()), (("own", 0, 1, ((0, 1, (-7, 1)),), ()),)
        machine = Machine(1, places, deeds)
        self.assertEqual((machine.clocks, machine.places, machine.deeds, machine.most), (1, places, deeds, 7))

    def test_most(self):
        self.assertEqual(GATE.most, 3)
        self.assertEqual(Machine(0, ((),), ()).most, 0)
        self.assertEqual(Machine(1, ((),), (("own", 0, 0, ((0, 1, (0, 0)), (1, 0, (0, 1))), ()),)).most, 0)
        self.assertEqual(Machine(1, ((), ((1, 0, (20, 0)),)), ()).most, 20)
        self.assertEqual(Machine(1, ((),), (("own", 0, 0, ((0, 1, (-20, 0)), (1, 0, (4, 1))), ()),)).most, 20)
        self.assertEqual(Machine(1, ((),), (("own", 0, 0, ((0, 1, (-4, 0)), (1, 0, (20, 1))), ()),)).most, 20)
        random = seeded("most")
        for _ in range(100):
            machine = drawn_machine(random)
            rules = sum(machine.places, ()) + sum((deed[3] for deed in machine.deeds), ())
            self.assertEqual(machine.most, max((abs(rule[2][0]) for rule in rules), default=0))

    def test_text(self):
        self.assertEqual(str(GATE), "machine of 2 clocks, 2 places, 3 deeds")
        self.assertEqual(str(Machine(0, ((),), ())), "machine of 0 clocks, 1 places, 0 deeds")
        self.assertEqual(
            str(Machine(1, ((),) * 12, (("own", 0, 0, (), ()),) * 40)), "machine of 1 clocks, 12 places, 40 deeds"
        )

    def test_equal_parts(self):
        random = seeded("equal machines")
        drawn = [drawn_machine(random, 1) for _ in range(60)] + [Machine(0, ((),), ()), Machine(1, ((),), ())]
        for one in drawn:
            self.assertTrue(one == Machine(one.clocks, one.places, one.deeds))
            self.assertFalse(one != Machine(one.clocks, one.places, one.deeds))
            for other in drawn:
                alike = (one.clocks, one.places, one.deeds) == (other.clocks, other.places, other.deeds)
                self.assertIs(one == other, alike)
                self.assertIs(one != other, not alike)

    def test_each_part_tells(self):
        base = Machine(2, ((), ()), (("own", 0, 1, (), ()),))
        for other in (
            Machine(1, ((), ()), (("own", 0, 1, (), ()),)), Machine(2, ((), (), ()), (("own", 0, 1, (), ()),)),
            Machine(2, ((), ()), (("foe", 0, 1, (), ()),)), Machine(2, ((), ()), ()),
            Machine(2, ((), ((1, 0, (1, 1)),)), (("own", 0, 1, (), ()),)),
        ):
            self.assertIs(base == other, False)
            self.assertIs(base != other, True)

    def test_values_of_other_kinds(self):
        machine = Machine(0, ((),), ())
        for value in NOT_INTEGERS + (0, (0, ((),), ()), "machine of 0 clocks, 1 places, 0 deeds", Machine, GATE.places):
            self.assertIs(machine == value, False)
            self.assertIs(value == machine, False)
            self.assertIs(machine != value, True)

    def test_it_cannot_be_iterated_over(self):
        with self.assertRaises(TypeError):
            iter(GATE)

    def test_two_equal_deeds(self):
        deed = ("own", 0, 0, ((1, 0, (1, 1)),), (1,))
        self.assertEqual(Machine(1, ((),), (deed, deed)).deeds, (deed, deed))
        self.assertNotEqual(Machine(1, ((),), (deed, deed)), Machine(1, ((),), (deed,)))

    def test_machines_with_equal_open_lots_need_not_be_equal(self):
        # [5.5]
        one = Machine(1, ((),), (("own", 0, 0, (), ()),))
        other = Machine(1, ((),), (("own", 0, 0, ((0, 1, (0, 1)),), ()),))
        self.assertEqual(open_lot(one, 0), open_lot(other, 0))
        self.assertEqual(open_lot(one, 0), everything(1))
        self.assertNotEqual(one, other)


if __name__ == "__main__":
    unittest.main()
