"""[19.1] to [19.3]: claims, their opposites, and a checker that takes papers for what is true alone."""

import unittest
from functools import cache

from pauseplay.check.checker import is_claim, kinds, opposite, takes
from pauseplay.errors import InvalidNumber, InvalidOperation, PlayError, Refused
from pauseplay.game.foe import foe_paper, is_outcome, outcome
from pauseplay.game.keep import hunt, is_kept_or_hunted, kept_field, kept_or_hunted
from pauseplay.game.own import own_paper
from pauseplay.game.time import is_time_paper, least_time, time_paper
from pauseplay.game.ways import is_pause_for, pause_for
from pauseplay.game.won import won_or_held
from pauseplay.lots.areas import is_within_or_point, within_or_point
from pauseplay.lots.lots import everything, is_ring, lot_or_ring, point_of
from pauseplay.machine.machines import Machine
from pauseplay.machine.reach import is_run_or_closed, run_or_closed
from tests.bent import bent_value
from tests.drawn import busy_machine, drawn_area, drawn_point, drawn_rules, drawn_standing, keeps_all, seeded
from tests.kinds import GREATEST, LAMP, NOT_AREAS_OF_TWO, NOT_CLOCK_NUMBERS, NOT_INTEGERS, NOT_MACHINES, NOT_MOST, NOT_PAIRS
from tests.kinds import NOT_PLACES, NOT_RULES, NOT_STANDINGS, NOUGHT_OF_TWO, TOO_GREAT, Calls, nested
from tests.plain_games import guarded_machine, rushing_machine
from tests.test_ways import at, span

GATE = Machine(1, ((), (), ()), (("own", 0, 1, ((0, 1, (-1, 1)),), ()), ("foe", 0, 2, ((0, 1, (-2, 0)),), ())))

START = at(0)

KINDS = (
    "comes", "held", "hunted", "in time", "kept", "never comes", "outside", "point", "ring", "too late", "waits", "within", "won",
)

OPPOSITES = (
    ("point", "ring"), ("within", "outside"), ("comes", "never comes"), ("won", "held"), ("kept", "hunted"), ("in time", "too late"),
)

# A claim of each kind that is true, with a paper.
FINE = {
    "point": (("point", 1, ((1, 0, (1, 0)),)), (2, (1,))),
    "ring": (("ring", 1, ((1, 0, (1, 0)), (0, 1, (-1, 1)))), (0, 1)),
    "within": (("within", 1, (span(1, 1, 2, 1),), (everything(1),)), ("within", (0,), (("in", 0),))),
    "outside": (("outside", 1, (everything(1),), (span(1, 1, 2, 1),)), ("point", (2, (1,)))),
    "comes": (("comes", GATE, START, (1,)), ("run", (((3, 2), 0),))),
    "never comes": (("never comes", GATE, at(0, 1, 1), (0,)), ("closed", ((), (everything(1),), ()))),
    "waits": (("waits", GATE, START, (everything(1),), ()), (5, 3)),
    "won": (("won", GATE, START, (1,)), ("won", ((0, span(0, 1, 2, 1), 0, span(1, 1, None, 0)),))),
    "held": (("held", GATE, at(3), (1,)), ("held", ((span(2, 0, None, 0),), (), (everything(1),)))),
    "kept": (("kept", GATE, START, (2,)), ("kept", ((span(0, 1, 2, 1),), (everything(1),), ()))),
    "hunted": (("hunted", GATE, at(3), (2,)), ("hunted", (((span(2, 0, None, 0),), (), ()),))),
    "in time": (("in time", GATE, START, (1,), 1), None),
    "too late": (("too late", GATE, START, (1,), 0), None),
}
for kind, most in (("in time", 1), ("too late", 0)):
    FINE[kind] = (FINE[kind][0], time_paper(GATE, (1,), START, most))


def judged(claim, paper):
    """What the function that judges papers of the claim, or of its opposite, answers."""
    kind, *told = claim
    if kind == "ring":
        return is_ring(*told, paper)
    if kind == "point":
        is_ring(*told, None)
        return is_within_or_point(told[0], (everything(told[0]),), (), ("point", paper)) and keeps_all(paper, told[1])
    if kind in ("within", "outside"):
        return is_within_or_point(*told, paper)
    if kind in ("comes", "never comes"):
        return is_run_or_closed(*told, paper)
    if kind == "waits":
        return is_pause_for(*told, paper)
    if kind in ("won", "held"):
        return is_outcome(told[0], told[2], told[1], paper)
    if kind in ("kept", "hunted"):
        return is_kept_or_hunted(told[0], told[2], told[1], paper)
    return is_time_paper(told[0], told[2], told[1], told[3], paper)


def is_claim_told(value):
    """Whether the judging function raises no error for the members."""
    try:
        judged(value, None)
    except (PlayError, InvalidNumber, Refused):
        return False
    return True


@cache
def drawn_claims(many=60):
    """Drawn true claims of all kinds, each with a paper."""
    random = seeded("claims")
    found = []
    for turn in range(many):
        clocks = turn % 4
        rules = drawn_rules(random, clocks, random.randint(0, 6))
        kind, told = lot_or_ring(clocks, rules)
        found.append((("point", clocks, rules), point_of(told)) if kind == "lot" else (("ring", clocks, rules), told))
        one, other = drawn_area(random, clocks), drawn_area(random, clocks)
        told = within_or_point(clocks, one, other)
        found.append((("within" if told[0] == "within" else "outside", clocks, one, other), told))
        machine = (busy_machine(random, clocks, 2), rushing_machine(random, 1, 2), guarded_machine(random, 1, 3))[turn % 3]
        standing, goals = drawn_standing(random, machine), (random.randrange(len(machine.places)),)
        told = run_or_closed(machine, standing, goals)
        found.append((("comes" if told[0] == "run" else "never comes", machine, standing, goals), told))
        goods, bads = drawn_area(random, machine.clocks), drawn_area(random, machine.clocks, 2)
        pause = pause_for(machine, standing, goods, bads)
        if pause is not None:
            found.append((("waits", machine, standing, goods, bads), pause))
        told = outcome(machine, goals, standing)
        found.append(((told[0], machine, standing, goals), told))
        told = kept_or_hunted(machine, goals, standing)
        found.append(((told[0], machine, standing, goals), told))
        most = random.randint(0, 4)
        told = time_paper(machine, goals, standing, most)
        found.append(((told[0], machine, standing, goals, most), told))
    return found


class ClaimsTest(Calls, unittest.TestCase):
    def test_kinds(self):
        self.assertEqual(kinds(), KINDS)
        self.assertEqual(tuple(sorted(FINE)), KINDS)

    def test_each_kind(self):
        for kind, (claim, paper) in FINE.items():
            self.assertIs(is_claim(claim), True, kind)
            self.assertIs(takes(claim, paper), True, kind)

    def test_opposites(self):
        told = {one: other for pair in OPPOSITES for one, other in (pair, pair[::-1])}
        self.assertEqual(len(told), 12)
        for kind, (claim, paper) in FINE.items():
            other = opposite(claim)
            if kind == "waits":
                self.assertIsNone(other)
            else:
                self.assertEqual(other, (told[kind],) + claim[1:])
                self.assertEqual(opposite(other), claim)
                self.assertIs(takes(other, paper), False)

    def test_members(self):
        # One member bent, left out, put in, exchanged.
        machine = ("machine", NOT_MACHINES)
        standing, places = ("standing", NOT_STANDINGS), ("places", NOT_PLACES)
        area = ("area", NOT_AREAS_OF_TWO)
        here = (0, (1, (0, 0)))
        for kinds_told, good, wrong in (
            (("point", "ring"), (2, ((1, 0, (3, 1)),)), (NOT_CLOCK_NUMBERS, tuple((rule,) for rule in NOT_RULES) + ((((1, 0, (3, 1)),) * 101), None, [], 0, ((3, 0, (1, 1)),)))),
            (("within", "outside"), (2, (NOUGHT_OF_TWO,), ()), (NOT_CLOCK_NUMBERS, area[1], area[1])),
            (("comes", "never comes", "won", "held", "kept", "hunted"), (LAMP, here, (1,)), (machine[1], standing[1], places[1])),
            (("waits",), (LAMP, here, (NOUGHT_OF_TWO,), ()), (machine[1], standing[1], area[1], area[1])),
            (("in time", "too late"), (LAMP, here, (1,), 5), (machine[1], standing[1], places[1], NOT_MOST)),
        ):
            for kind in kinds_told:
                self.assertIs(is_claim((kind, *good)), True)
                for index, values in enumerate(wrong):
                    for value in values:
                        self.assertIs(is_claim((kind, *good[:index], value, *good[index + 1:])), False)
                    self.assertIs(is_claim((kind, *good[:index], *good[index + 1:])), False)
                    self.assertIs(is_claim((kind, *good[:index], good[index], *good[index:])), False)
                    for other in range(index):
                        told = list(good)
                        told[index], told[other] = told[other], told[index]
                        self.assertIs(is_claim((kind, *told)), is_claim_told((kind, *told)))
                self.assertIs(is_claim([kind, *good]), False)
                self.assertIs(is_claim(good), False)
                self.assertIs(is_claim((kind.upper(), *good)), False)
                self.assertIs(is_claim(((kind,), *good)), False)

    def test_other_values(self):
        for value in NOT_PAIRS + NOT_INTEGERS + (nested(20), LAMP, ("",), ("won",), ("comes",), (None,), ("wins", GATE, START, (1,)), ("open", GATE, START, (1,)), (True, GATE, START, (1,)), ((), GATE), ([],), ({},)):
            self.assertIs(is_claim(value), False)
            self.assert_refused(InvalidOperation, opposite, value)
            self.assert_refused(InvalidOperation, takes, value, None)

    def test_areas_of_other_clocks_and_machines_without_room(self):
        self.assertIs(is_claim(("within", 1, (NOUGHT_OF_TWO,), ())), False)
        self.assertIs(is_claim(("within", 2, (), ())), True)
        self.assertIs(is_claim(("ring", 1, ((2, 0, (1, 1)),))), False)
        four, twelve = Machine(4, ((),), ()), Machine(0, ((),) * 12, ())
        full = Machine(0, ((), ()), (("foe", 0, 1, (), ()),) * 21)
        for machine in (four, twelve, full):
            standing = (0, (1, (0,) * machine.clocks))
            for kind in ("in time", "too late"):
                self.assertIs(is_claim((kind, machine, standing, (1,) if machine is full else (0,), 5)), False)
                self.assert_refused(InvalidOperation, takes, (kind, machine, standing, (0,) if machine is not full else (1,), 5), None)
            self.assertIs(is_claim(("won", machine, standing, (0,))), True)
        self.assertIs(is_claim(("in time", full, (0, (1, ())), (0,), 5)), True)

    def test_just_what_the_judging_functions_let(self):
        random = seeded("bent claims")
        found = {True: 0, False: 0}
        for claim, _ in drawn_claims():
            for _ in range(6):
                members = bent_value(random, claim[1:])
                if isinstance(members, tuple):
                    bent = (claim[0], *members)
                    expected = len(bent) == len(claim) and is_claim_told(bent)
                    found[expected] += 1
                    self.assertIs(is_claim(bent), expected, bent)
        self.assertGreater(min(found.values()), 100)


class TakesTest(Calls, unittest.TestCase):
    def test_the_true_one_has_a_paper(self):
        # [19.1]
        found = {}
        for claim, paper in drawn_claims():
            found[claim[0]] = found.get(claim[0], 0) + 1
            self.assertIs(takes(claim, paper), True, claim)
            if claim[0] != "waits":
                self.assertIs(takes(opposite(claim), paper), False, claim)
        self.assertEqual(tuple(sorted(found)), KINDS)
        self.assertGreater(min(found.values()), 4)

    def test_bent_papers(self):
        # [19.2]: none is taken for what is not true; for what is true just those that are papers.
        random = seeded("bent papers")
        taken = {True: 0, False: 0}
        for claim, paper in drawn_claims():
            for _ in range(12):
                bent = bent_value(random, paper)
                told = takes(claim, bent)
                self.assertIs(told, self.is_paper(claim, bent), (claim, bent))
                taken[told] += 1
                if claim[0] != "waits":
                    self.assertIs(takes(opposite(claim), bent), False, (claim, bent))
        self.assertGreater(min(taken.values()), 300)

    def is_paper(self, claim, paper):
        """Whether the judging function takes the paper, and it is of this kind."""
        words = {"outside": "point", "comes": "run", "never comes": "closed"}
        if claim[0] in ("point", "ring", "waits"):
            return judged(claim, paper)
        return judged(claim, paper) and paper[0] == words.get(claim[0], claim[0])

    def test_papers_of_others(self):
        for kind, (claim, paper) in FINE.items():
            for other, (_, its_paper) in FINE.items():
                if other != kind:
                    self.assertIs(takes(claim, its_paper), kind == "waits" and other == "ring", (kind, other))

    def test_papers_of_other_machines_and_standings(self):
        won, field = own_paper(GATE, (1,)), foe_paper(GATE, (1,))
        turned = Machine(1, GATE.places, (("foe", *GATE.deeds[0][1:]), ("own", *GATE.deeds[1][1:])))
        for claim, paper, expected in (
            (("won", GATE, at(2), (1,)), ("won", won), True), (("won", GATE, at(3), (1,)), ("won", won), False), (("won", turned, at(2), (1,)), ("won", won), False),
            (("won", GATE, at(2), (2,)), ("won", won), False), (("held", GATE, at(3), (1,)), ("held", field), True), (("held", GATE, at(2), (1,)), ("held", field), False),
            (("held", turned, at(3), (1,)), ("held", field), True), (("held", turned, at(3), (0,)), ("held", field), False), (("held", GATE, at(3), (2,)), ("held", field), False),
            (("kept", GATE, at(2), (2,)), ("kept", kept_field(GATE, (2,))), True), (("kept", GATE, at(3), (2,)), ("kept", kept_field(GATE, (2,))), False),
            (("hunted", GATE, at(3), (2,)), ("hunted", hunt(GATE, (2,))), True), (("hunted", GATE, at(2), (2,)), ("hunted", hunt(GATE, (2,))), False),
            (("hunted", turned, at(3), (2,)), ("hunted", hunt(GATE, (2,))), False), (("in time", GATE, START, (1,), 1), time_paper(GATE, (1,), START, 2), False),
            (("too late", GATE, START, (1,), 1), time_paper(GATE, (1,), START, 0), False), (("comes", GATE, START, (2,)), ("run", (((3, 1), 1),)), True),
            (("comes", GATE, START, (1,)), ("run", (((3, 1), 1),)), False), (("comes", turned, START, (1,)), ("run", (((1, 1), 0),)), True),
        ):
            self.assertIs(takes(claim, paper), expected, (claim, paper))

    def test_values_that_are_no_papers(self):
        values = NOT_PAIRS[:20] + NOT_INTEGERS + (None, nested(20), LAMP, "won", ("won",), ("run",), ("point",), ("within",), ("within", ()), ("run", None), ("closed", None), ("point", None), ("held", None), ("kept", None), ("hunted", None))
        for kind, (claim, paper) in FINE.items():
            for value in values:
                if (kind, value) not in (("ring", (1, 1)), ("waits", (1, 1))):
                    self.assertIs(takes(claim, value), False, kind)
            if kind not in ("point", "ring", "waits"):
                self.assertIs(takes(claim, [*paper]), False)
                self.assertIs(takes(claim, paper + (0,)), False)

    def test_long_numbers(self):
        claim = FINE["point"][0]
        self.assertIs(takes(claim, (GREATEST, (GREATEST - 1,))), True)
        self.assertIs(takes(claim, (TOO_GREAT, (1,))), False)
        self.assertIs(takes(claim, (GREATEST, (GREATEST,))), False)
        self.assertIs(takes(claim, (4, (2, 2))), False)
        waits = FINE["waits"][0]
        self.assertIs(takes(waits, (GREATEST, GREATEST - 1)), True)
        self.assertIs(takes(waits, (1, TOO_GREAT)), False)

    def test_true_claims_of_plain_looks(self):
        # [19.1]: EITHER the one OR the other is true.
        random = seeded("either or")
        for _ in range(40):
            clocks = random.randint(1, 2)
            rules = drawn_rules(random, clocks, random.randint(1, 5))
            points = [drawn_point(random, clocks) for _ in range(20)]
            if any(keeps_all(point, rules) for point in points):
                self.assertEqual(lot_or_ring(clocks, rules)[0], "lot")
                self.assertIs(any(takes(("point", clocks, rules), point) for point in points), True)
                self.assertIs(any(takes(("ring", clocks, rules), (index,)) for index in range(-clocks, len(rules))), False)


class NotTrueTest(unittest.TestCase):
    """[19.3]"""

    def test_a_paper_that_is_not_taken_shows_nothing(self):
        claim, _ = FINE["won"]
        self.assertIs(takes(claim, ("won", ())), False)
        self.assertEqual(won_or_held(*claim[1:2], claim[3], claim[2]), ("won", 1))

    def test_a_paper_can_be_taken_for_several_claims(self):
        claim, paper = FINE["won"]
        self.assertIs(takes(("won", GATE, at(1), (1,)), paper), True)
        self.assertIs(takes(claim, paper), True)

    def test_what_is_won_need_not_be_in_time(self):
        slow = Machine(1, ((), (), ()), (("own", 0, 1, ((0, 1, (-20, 1)),), (1,)), ("own", 1, 2, ((0, 1, (-1, 1)),), ())))
        self.assertEqual(outcome(slow, (2,), START)[0], "won")
        self.assertIsNone(least_time(slow, (2,), START, 20))
        self.assertIs(takes(("too late", slow, START, (2,), 20), time_paper(slow, (2,), START, 20)), True)


if __name__ == "__main__":
    unittest.main()
