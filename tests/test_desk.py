"""[20.1] to [20.4], [20.6]: the desk, its watches and answers, edits, what they can do, undo, and twins."""

import unittest

from pauseplay.errors import InvalidMachine, InvalidName, InvalidNumber, InvalidOperation, InvalidPlaces, InvalidStanding
from pauseplay.errors import NothingToUndo, Refused, TooMany, UnknownName
from pauseplay.game.foe import is_outcome
from pauseplay.game.won import rank, won_or_held
from pauseplay.house import desk as desks
from pauseplay.house.desk import Desk, read_log
from pauseplay.machine.machines import Machine, machine_fault
from pauseplay.machine.runs import is_standing
from tests.drawn import busy_deed, busy_limits, busy_machine, drawn_limits, drawn_standing, point_showing, seeded, shown_by
from tests.kinds import GREATEST, LAMP, NOT_MACHINES, NOT_PLACES, NOT_STANDINGS, TOO_GREAT, Calls, nested
from tests.test_ways import at

GO = ("own", 0, 1, ((0, 1, (-1, 1)), (1, 0, (3, 0))), ())

ROOM = Machine(1, ((), ()), (GO,))

RING = ("foe", 0, 0, ((0, 1, (-1, 0)),), (1,))


def watched_desk():
    """A desk with a watch."""
    desk = Desk(ROOM)
    desk.watch("go", (1,), (0, (2, (1,))))
    return desk


class Plain:
    """A plain desk: all that was done, each time looked at from the first machine on."""

    def __init__(self, machine):
        self.first = machine
        self.told = []

    def state(self, many=None):
        """The places, the deeds, and the watches with the index of their beginning, behind so many things done."""
        places, deeds, watches = list(self.first.places), list(self.first.deeds), {}
        for index, (kind, *parts) in enumerate(self.told if many is None else self.told[:many]):
            if kind == "edit":
                for change in parts[0]:
                    self.change(places, deeds, change)
            elif kind == "watch":
                watches[parts[0]] = (parts[1], parts[2], index)
            else:
                del watches[parts[0]]
        return places, deeds, watches

    def change(self, places, deeds, change):
        """Do the change; whether its index is there."""
        kind, *parts = change
        if kind == "place":
            places.append(parts[0])
        elif kind == "put":
            if parts[0] > len(deeds):
                return False
            deeds.insert(parts[0], parts[1])
        elif parts[0] >= len(places if kind == "limits" else deeds):
            return False
        elif kind == "take":
            del deeds[parts[0]]
        elif kind == "deed":
            deeds[parts[0]] = parts[1]
        else:
            places[parts[0]] = parts[1]
        return True

    def machine(self, many=None):
        places, deeds, _ = self.state(many)
        return Machine(self.first.clocks, tuple(places), tuple(deeds))

    def refusal(self, changes):
        """Why an edit is refused, None if it is not."""
        places, deeds, watches = self.state()
        for index, change in enumerate(changes):
            if not self.change(places, deeds, change):
                return ("change", index)
        fault = machine_fault(self.first.clocks, tuple(places), tuple(deeds))
        if fault is not None:
            return ("machine", fault)
        machine = Machine(self.first.clocks, tuple(places), tuple(deeds))
        lost = sorted(name for name, (_, standing, _) in watches.items() if not is_standing(machine, standing))
        return ("watched", lost[0]) if lost else None


def drawn_changes(random, machine, many=3):
    """Changes, some of which cannot be done."""
    found = []
    for _ in range(random.randint(1, many)):
        kind = random.choice(("deed", "put", "put", "take", "limits", "limits", "place"))
        index = random.choice((0, 1, random.randrange(len(machine.deeds) + 2)))
        deed = busy_deed(random, machine.clocks, len(machine.places) + random.choice((0, 0, 0, 0, 1)), 3, 0.6, False)
        limits = random.choice((drawn_limits(random, machine.clocks), (), busy_limits(random, machine.clocks, 1)))
        found.append({
            "deed": ("deed", index, deed), "put": ("put", index, deed), "take": ("take", index),
            "limits": ("limits", random.randrange(len(machine.places) + 1), limits), "place": ("place", limits),
        }[kind])
    return tuple(found)


class DeskTest(Calls, unittest.TestCase):
    def test_constants(self):
        self.assertEqual((desks.MOST_WATCHES, desks.MOST_DONE), (8, 400))

    def test_a_desk(self):
        desk = Desk(ROOM)
        self.assertEqual((desk.machine, desk.done, desk.watches), (ROOM, 0, ()))
        desk.watch("go", (1,), (0, (4, (2,))))
        self.assertEqual((desk.done, desk.watches, desk.answer("go")), (1, ("go",), ("won", 1)))
        desk.edit((("put", 1, RING),))
        self.assertEqual((desk.done, desk.machine.deeds), (2, (GO, RING)))
        desk.watch("a", (), at(0))
        self.assertEqual((desk.watches, desk.answer("a")), (("a", "go"), ("held", 0)))
        desk.unwatch("go")
        self.assertEqual((desk.watches, desk.done), (("a",), 4))

    def test_machines(self):
        for value in NOT_MACHINES:
            self.assert_refused(InvalidMachine, Desk, value)
        for name in ("machine", "done", "watches"):
            with self.assertRaises(AttributeError):
                setattr(Desk(ROOM), name, None)

    def test_each_change(self):
        for changes, places, deeds in (
            ((("deed", 0, RING),), ((), ()), (RING,)), ((("put", 0, RING),), ((), ()), (RING, GO)), ((("put", 1, RING),), ((), ()), (GO, RING)), ((("take", 0),), ((), ()), ()),
            ((("limits", 1, ((1, 0, (5, 1)),)),), ((), ((1, 0, (5, 1)),)), (GO,)), ((("place", ()),), ((), (), ()), (GO,)), ((("place", ((1, 0, (0, 1)),)),), ((), (), ((1, 0, (0, 1)),)), (GO,)),
            ((("put", 0, RING), ("put", 1, RING), ("take", 2), ("deed", 0, GO)), ((), ()), (GO, RING)),
            ((("take", 0), ("put", 0, RING)), ((), ()), (RING,)),
        ):
            desk = Desk(ROOM)
            desk.edit(changes)
            self.assertEqual((desk.machine.clocks, desk.machine.places, desk.machine.deeds, desk.done), (1, places, deeds, 1))
            desk.undo()
            self.assertEqual((desk.machine, desk.done), (ROOM, 0))

    def test_no_machine_for_a_while(self):
        desk = Desk(ROOM)
        far = ("own", 0, 2, (), ())
        desk.edit((("put", 0, far), ("place", ())))
        self.assertEqual((desk.machine.places, desk.machine.deeds), (((), (), ()), (far, GO)))
        self.assert_reason(("machine", ("deed", 0, "goal")), Desk(ROOM).edit, (("put", 0, far),))
        full = Desk(Machine(1, ((), ()), (GO,) * 40))
        full.edit((("put", 40, RING), ("take", 0)))
        self.assertEqual(full.machine.deeds, (GO,) * 39 + (RING,))
        self.assert_reason(("machine", ("deeds",)), full.edit, (("put", 40, RING),))
        self.assert_reason(("change", 1), full.edit, (("take", 0), ("deed", 39, GO)))
        self.assert_reason(("machine", ("places",)), Desk(Machine(1, ((),) * 12, ())).edit, (("place", ()),))

    def test_refusals(self):
        for reason, changes in (
            (("change", 0), (("deed", 1, RING),)), (("change", 0), (("put", 2, RING),)), (("change", 0), (("take", 1),)), (("change", 0), (("limits", 2, ()),)),
            (("change", 1), (("take", 0), ("take", 0))), (("change", 2), (("put", 1, RING), ("take", 1), ("take", 1))), (("change", 1), (("place", ()), ("limits", 3, ()))),
            (("machine", ("deed", 1, "start")), (("put", 1, ("own", 2, 0, (), ())),)), (("machine", ("deed", 0, "goal")), (("deed", 0, ("own", 0, 11, (), ())),)),
            # The first reason is told: an index ahead of a fault, a fault ahead of a watch.
            (("change", 1), (("put", 1, ("own", 2, 0, (), ())), ("take", 40))), (("machine", ("deed", 0, "goal")), (("deed", 0, ("own", 0, 11, (), ())), ("limits", 0, ((1, 0, (0, 1)),)))),
            (("watched", "go"), (("limits", 0, ((1, 0, (0, 1)),)),)), (("watched", "go"), (("limits", 0, ((1, 0, (1, 1)),)), ("limits", 0, ((1, 0, (0, 1)),)))),
        ):
            desk = watched_desk()
            log = desk.log()
            self.assert_reason(reason, desk.edit, changes)
            self.assertEqual((desk.log(), desk.machine, desk.done), (log, ROOM, 1))
        desk = watched_desk()
        desk.watch("b", (), (0, (1, (1,))))
        desk.watch("a", (), (0, (1, (2,))))
        for most, reason in (((2, 1), None), ((2, 0), "a"), ((1, 1), "a"), ((1, 0), "a"), ((0, 1), "a")):
            if reason is not None:
                self.assert_reason(("watched", reason), desk.edit, (("limits", 0, ((1, 0, most),)),))
        desk.unwatch("a")
        self.assert_reason(("watched", "b"), desk.edit, (("limits", 0, ((1, 0, (1, 0)),)),))
        desk.edit((("limits", 0, ((1, 0, (0, 1)),)), ("limits", 0, ((1, 0, (1, 1)),))))
        self.assertEqual(desk.machine.places[0], ((1, 0, (1, 1)),))

    def test_what_are_no_changes(self):
        fine = ("take", 0)
        values = [None, True, 0, "", "ab", (), [], {}, [fine], fine, (fine,) * 9, (fine, None), (None,), ((),), ("take",), ([*fine],), (("take",),), (("take", 0, 0),), (("Take", 0),), (("taken", 0),), nested(20), LAMP]
        for index in (-1, 41, True, False, None, "0", (), [0], GREATEST, TOO_GREAT, 10 ** 5000):
            values.extend([(("take", index),), (("put", index, GO),), (("deed", index, GO),), (("limits", index, ()),)])
        for deed in (None, (), GO[:4], GO + ((),), [*GO], ("Own", *GO[1:]), ("own", 12, 0, (), ()), ("own", 0, 12, (), ()), ("own", -1, 0, (), ()), ("own", True, 0, (), ()), ("own", 0, 1, (), (2,)),
                     ("own", 0, 1, ((2, 0, (1, 1)),), ()), ("own", 0, 1, ((1, 0, (21, 1)),), ()), ("own", 0, 1, [], ()), ("own", 0, 1, (), [1]), LAMP):
            values.extend([(("put", 0, deed),), (("deed", 0, deed),)])
        for limits in (None, 0, [], ((1, 0, (0, 0)),), ((1, 0, (21, 1)),), ((0, 1, (0, 1)),), ((2, 0, (1, 1)),), ((1, 0, (1, 1)), (1, 0, (2, 1))), (None,), LAMP):
            values.extend([(("limits", 0, limits),), (("place", limits),)])
        desk = watched_desk()
        log = desk.log()
        for value in values:
            self.assert_refused(InvalidOperation, desk.edit, value)
        self.assertEqual(desk.log(), log)
        desk.edit((("put", 0, ("own", 11, 11, (), ())), ("put", 40, GO)[:1] + (1, GO)) + (("take", 0),) + (("place", ()),) * 5)
        self.assertEqual(len(desk.machine.places), 7)

    def test_watches(self):
        desk = Desk(LAMP)
        for value in (None, True, 0, "", "abcdefghi", "a1", "A", "a b", "\u00e9", (), ("a",), [], LAMP):
            self.assert_refused(InvalidName, desk.watch, value, (0,), (0, (1, (0, 0))))
            self.assert_refused(InvalidName, desk.watch, value, None, None)
        for value in NOT_PLACES:
            self.assert_refused(InvalidPlaces, desk.watch, "a", value, (0, (1, (0, 0))))
            self.assert_refused(InvalidPlaces, desk.watch, "a", value, None)
        for value in NOT_STANDINGS:
            self.assert_refused(InvalidStanding, desk.watch, "a", (0,), value)
        self.assertEqual((desk.done, desk.watches), (0, ()))
        for name in ("own", "place", "h", "abcdefgh", "f", "e", "d", "c"):
            desk.watch(name, (0,), (0, (1, (0, 0))))
        self.assertEqual(desk.watches, ("abcdefgh", "c", "d", "e", "f", "h", "own", "place"))
        self.assert_too_many(8, desk.watch, "i", (0,), (0, (1, (0, 0))))
        self.assert_reason(("watch",), desk.watch, "c", (0,), (0, (1, (0, 0))))
        self.assert_refused(InvalidStanding, desk.watch, "c", (0,), (0, (1, (4, 0))))
        self.assertEqual(desk.done, 8)
        desk.unwatch("own")
        desk.watch("i", (0,), (0, (1, (0, 0))))
        self.assertEqual((desk.watches[-2:], desk.done), (("i", "place"), 10))

    def test_unknown_names(self):
        desk = watched_desk()
        for value in ("", "g", "goo", "Go", None, True, 0, (), ("go",), [], ["go"], {}, {"go": 1}, LAMP):
            for call in (desk.unwatch, desk.answer, desk.paper, desk.changed):
                with self.assertRaises(UnknownName) as caught:
                    call(value)
                self.assertIs(caught.exception.asked, value)
        self.assertEqual(desk.done, 1)

    def test_400_things_done(self):
        desk = watched_desk()
        for _ in range(199):
            desk.edit((("put", 1, RING),))
            desk.edit((("take", 1),))
        desk.watch("b", (), at(0))
        self.assertEqual(desk.done, 400)
        log = desk.log()
        self.assert_too_many(400, desk.edit, (("put", 1, RING),))
        self.assert_too_many(400, desk.watch, "c", (1,), at(0))
        self.assert_too_many(400, desk.unwatch, "b")
        # This comes behind all others.
        self.assert_reason(("change", 0), desk.edit, (("take", 1),))
        self.assert_reason(("watched", "go"), desk.edit, (("limits", 0, ((1, 0, (0, 1)),)),))
        self.assert_reason(("watch",), desk.watch, "b", (1,), at(0))
        self.assert_refused(InvalidOperation, desk.edit, ())
        self.assert_refused(UnknownName, desk.unwatch, "c")
        self.assertEqual((desk.log(), desk.done), (log, 400))
        self.assertEqual(desk.changed("go"), (("won", 1), ("won", 1)))
        self.assertIs(read_log(log) == desk, True)
        desk.undo()
        desk.unwatch("go")
        self.assertEqual((desk.done, desk.watches), (400, ()))
        desk.undo(400)
        self.assertEqual((desk.done, desk.machine, desk.watches), (0, ROOM, ()))


class AnswersTest(Calls, unittest.TestCase):
    def test_answers_and_papers(self):
        desk = watched_desk()
        self.assertEqual(desk.answer("go"), ("won", 1))
        self.assertIs(is_outcome(ROOM, (1,), (0, (2, (1,))), desk.paper("go")), True)
        desk.edit((("take", 0),))
        self.assertEqual(desk.answer("go"), ("held", 0))
        self.assertEqual(desk.paper("go")[0], "held")
        self.assertIs(is_outcome(desk.machine, (1,), (0, (2, (1,))), desk.paper("go")), True)

    def test_changed(self):
        desk = Desk(ROOM)
        desk.edit((("put", 1, RING),))
        desk.watch("go", (1,), at(1, 2))
        self.assert_reason(("edit",), desk.changed, "go")
        desk.edit((("take", 0),))
        self.assertEqual(desk.changed("go"), (("won", 1), ("held", 0)))
        desk.edit((("put", 0, GO),))
        self.assertEqual(desk.changed("go"), (("held", 0), ("won", 1)))
        # Watches do not count as edits.
        desk.watch("b", (1,), at(1, 2))
        self.assertEqual(desk.changed("go"), (("held", 0), ("won", 1)))
        self.assert_reason(("edit",), desk.changed, "b")
        desk.undo(2)
        self.assertEqual(desk.changed("go"), (("won", 1), ("held", 0)))
        desk.undo()
        self.assert_reason(("edit",), desk.changed, "go")
        # A watch that begins anew has not seen what was ahead of it; one whose end is undone has.
        desk.edit((("take", 0),))
        desk.unwatch("go")
        self.assert_refused(UnknownName, desk.changed, "go")
        desk.watch("go", (1,), at(1, 2))
        self.assert_reason(("edit",), desk.changed, "go")
        desk.undo(2)
        self.assertEqual(desk.changed("go"), (("won", 1), ("held", 0)))

    def test_undo(self):
        desk = watched_desk()
        desk.edit((("put", 1, RING), ("place", ())))
        desk.unwatch("go")
        for value in (0, -1, -GREATEST, True, False, None, "1", (), (1,), [1], TOO_GREAT, 10 ** 5000, LAMP):
            self.assert_number_refused(value, desk.undo, value)
        for value in (4, 400, GREATEST):
            with self.assertRaises(NothingToUndo) as caught:
                desk.undo(value)
            self.assertEqual(caught.exception.wanted, value)
        self.assertEqual(desk.done, 3)
        desk.undo()
        self.assertEqual((desk.watches, desk.done), (("go",), 2))
        desk.undo(many=1)
        self.assertEqual((desk.machine, desk.watches), (ROOM, ("go",)))
        desk.undo(1)
        self.assertEqual((desk.watches, desk.done), ((), 0))
        with self.assertRaises(NothingToUndo) as caught:
            desk.undo()
        self.assertEqual(caught.exception.wanted, 1)

    def test_twins_go_their_own_ways(self):
        desk = watched_desk()
        twin = desk.twin()
        self.assertIs(desk == twin, True)
        self.assertIs(desk != twin, False)
        twin.edit((("take", 0),))
        self.assertIs(desk == twin, False)
        self.assertEqual((desk.machine, desk.done, desk.answer("go"), twin.answer("go")), (ROOM, 1, ("won", 1), ("held", 0)))
        desk.edit((("take", 0),))
        self.assertIs(desk == twin, True)
        desk.undo(2)
        self.assertEqual((twin.watches, twin.done, desk.watches), (("go",), 2, ()))
        self.assertEqual(twin.changed("go"), (("won", 1), ("held", 0)))
        further = twin.twin()
        twin.undo(2)
        self.assertEqual((further.done, further.changed("go")), (2, (("won", 1), ("held", 0))))

    def test_equal_desks(self):
        self.assertIs(Desk(ROOM) == Desk(LAMP), False)
        self.assertIs(Desk(ROOM) == Desk(Machine(1, ((), ()), (GO,))), True)
        # Another way to the same machine has another log.
        desk, other = Desk(ROOM), Desk(ROOM)
        self.assertIs(desk == other, True)
        desk.edit((("put", 1, RING),))
        self.assertIs(desk == other, False)
        self.assertIs(desk == Desk(desk.machine), False)
        desk.edit((("take", 1),))
        self.assertIs(desk == other, False)
        desk.undo(2)
        self.assertIs(desk == other, True)
        desk.watch("a", (1,), (0, (2, (1,))))
        other.watch("a", (1,), (0, (4, (2,))))
        self.assertIs(desk == other, True)
        for value in (None, 0, desk.log(), ROOM, (), [], LAMP):
            self.assertIs(desk == value, False)
            self.assertIs(desk != value, True)

    def test_not_iterated(self):
        with self.assertRaises(TypeError):
            iter(Desk(ROOM))


class PlainDeskTest(unittest.TestCase):
    def test_as_a_plain_look_from_nothing_tells(self):
        # [20.1] to [20.4]
        random = seeded("desks")
        counts = {"edit": 0, "change": 0, "machine": 0, "watched": 0, "undo": 0}
        for turn in range(90):
            machine = busy_machine(random, turn % 4, 3)
            desk, plain = Desk(machine), Plain(machine)
            for _ in range(25):
                self.step(random, desk, plain, counts)
                self.assertEqual(desk.machine, plain.machine())
                self.assertEqual((desk.done, desk.watches), (len(plain.told), tuple(sorted(plain.state()[2]))))
            self.assert_answers(desk, plain)
            again = read_log(desk.log())
            self.assertIs(again == desk, True)
            self.assertEqual((again.log(), again.done, again.watches, again.machine), (desk.log(), desk.done, desk.watches, desk.machine))
            self.assert_answers(again, plain)
        self.assertGreater(min(counts.values()), 15, counts)

    def step(self, random, desk, plain, counts):
        """Do something with both."""
        kind = random.choice(("edit", "edit", "edit", "watch", "watch", "unwatch", "undo"))
        if kind == "edit":
            changes = drawn_changes(random, desk.machine)
            reason = plain.refusal(changes)
            counts["edit" if reason is None else reason[0]] += 1
            self.do(desk, plain, reason, ("edit", changes))
        elif kind == "watch":
            name, goals = random.choice("abcd"), tuple(sorted(random.sample(range(len(desk.machine.places)), 1)))
            standing = drawn_standing(random, desk.machine)
            told = (standing[0], point_showing(shown_by(standing[1])[1:]))
            self.do(desk, plain, ("watch",) if name in plain.state()[2] else None, ("watch", name, goals, told))
        elif kind == "unwatch":
            names = sorted(plain.state()[2])
            if names:
                self.do(desk, plain, None, ("unwatch", random.choice(names)))
        elif plain.told:
            many = random.randint(1, min(3, len(plain.told)))
            counts["undo"] += 1
            desk.undo(many)
            del plain.told[-many:]

    def do(self, desk, plain, reason, entry):
        call = {"edit": desk.edit, "watch": desk.watch, "unwatch": desk.unwatch}[entry[0]]
        if reason is None:
            call(*entry[1:])
            plain.told.append(entry)
        else:
            with self.assertRaises(Refused) as caught:
                call(*entry[1:])
            self.assertEqual(caught.exception.reason, reason)

    def assert_answers(self, desk, plain):
        machine = plain.machine()
        for name, (goals, standing, begun) in plain.state()[2].items():
            answer = won_or_held(machine, goals, standing)
            self.assertEqual(desk.answer(name), answer)
            self.assertIs(is_outcome(machine, goals, standing, desk.paper(name)), True)
            edits = [index for index, told in enumerate(plain.told) if told[0] == "edit" and index > begun]
            if edits:
                self.assertEqual(desk.changed(name), (won_or_held(plain.machine(edits[-1]), goals, standing), answer))
            else:
                with self.assertRaises(Refused) as caught:
                    desk.changed(name)
                self.assertEqual(caught.exception.reason, ("edit",))


class EditsTest(unittest.TestCase):
    """[20.3]"""

    def edited(self, machine, *changes):
        desk = Desk(machine)
        desk.edit(changes)
        return desk.machine

    def test_what_edits_can_do(self):
        random = seeded("what edits do")
        found = {"more": 0, "less": 0}
        for turn in range(80):
            machine = busy_machine(random, turn % 4, 2, turn % 3 == 0)
            goals, many = (random.randrange(len(machine.places)),), len(machine.deeds)
            deed = busy_deed(random, machine.clocks, len(machine.places), 2, 1.0, False)
            owners = {owner: [index for index, told in enumerate(machine.deeds) if told[0] == owner] for owner in ("own", "foe")}
            better = [self.edited(machine, ("put", random.randint(0, many), ("own", *deed[1:])))]
            worse = [self.edited(machine, ("put", random.randint(0, many), ("foe", *deed[1:])))]
            if owners["foe"]:
                better.append(self.edited(machine, ("take", random.choice(owners["foe"]))))
            if owners["own"]:
                worse.append(self.edited(machine, ("take", random.choice(owners["own"]))))
            same = self.edited(machine, ("place", drawn_limits(random, machine.clocks)))
            for standing in [drawn_standing(random, machine) for _ in range(6)]:
                number = rank(machine, goals, standing)
                self.assertEqual(won_or_held(same, goals, standing), won_or_held(machine, goals, standing))
                for other in better:
                    if number is not None:
                        found["more"] += 1
                        self.assertLessEqual(rank(other, goals, standing), number)
                for other in worse:
                    if number is None:
                        found["less"] += 1
                        self.assertIsNone(rank(other, goals, standing))
        self.assertGreater(min(found.values()), 100)

    def test_what_is_not_true(self):
        # [20.6]: an edit that leaves all answers, but not all ranks; a further place that changes none.
        desk = watched_desk()
        desk.watch("b", (1,), at(3, 2))
        elder = [desk.answer(name)[0] for name in desk.watches]
        desk.edit((("put", 1, RING),))
        self.assertEqual([desk.answer(name)[0] for name in desk.watches], elder)
        self.assertEqual(desk.changed("b"), (("won", 1), ("won", 2)))
        desk.edit((("place", ()),))
        self.assertEqual([desk.changed(name)[0] == desk.changed(name)[1] for name in desk.watches], [True, True])
        # A deed that is open nowhere can be edited so that it is.
        never = ("own", 0, 1, ((0, 1, (-2, 1)), (1, 0, (1, 1))), ())
        desk = Desk(Machine(1, ((), ()), (never,)))
        desk.watch("a", (1,), at(0))
        desk.edit((("deed", 0, GO),))
        self.assertEqual(desk.changed("a"), (("held", 0), ("won", 1)))


class ErrorsTest(unittest.TestCase):
    def test_nothing_is_changed_by_what_is_refused(self):
        desk = watched_desk()
        desk.edit((("put", 1, RING),))
        log, machine = desk.log(), desk.machine
        for call, arguments in (
            (desk.edit, ((("put", 1, RING), ("take", 9)),)), (desk.edit, (None,)), (desk.edit, ((("limits", 0, ((1, 0, (0, 1)),)),),)), (desk.watch, ("go", (1,), at(0))),
            (desk.watch, ("b", (2,), at(0))), (desk.watch, ("b", (1,), None)), (desk.unwatch, ("b",)), (desk.answer, ("b",)), (desk.undo, (3,)), (desk.undo, (0,)), (desk.changed, ("b",)),
        ):
            with self.assertRaises((InvalidOperation, Refused, InvalidPlaces, InvalidStanding, UnknownName, NothingToUndo, InvalidNumber, TooMany)):
                call(*arguments)
            self.assertEqual((desk.log(), desk.machine, desk.done, desk.watches), (log, machine, 2, ("go",)))


if __name__ == "__main__":
    unittest.main()
