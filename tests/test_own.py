"""[13.1] to [13.5]: own papers, their fields, the rows at standings, offers, and plays by them."""

import unittest
from itertools import permutations

from pauseplay.errors import InvalidOperation, InvalidPlaces, InvalidStanding
from pauseplay.game.own import is_offer_by, is_own_paper, offer_by, own_paper, paper_field, row_at
from pauseplay.game.plays import behind, is_offer, played
from pauseplay.game.ways import is_pause_for, pause_for, way
from pauseplay.game.won import led_out, rank, rounds, won_field
from pauseplay.lots.areas import is_area
from pauseplay.lots.lots import everything, is_lot_within, lot_or_ring
from pauseplay.machine.fields import ahead_of_deed, are_equal_fields, field_has, is_field, is_within_field
from pauseplay.machine.machines import Machine, deeds_at, limits
from tests.drawn import seeded, shown_by
from tests.kinds import GREATEST, TOO_GREAT, Calls, nested
from tests.plain import games_won, looked_standings, moments
from tests.plain_games import bent_lot, bounded_games, drawn_answer, drawn_games
from tests.test_reach import wheels
from tests.test_ways import at, span

# From 1 on the own deed is open, the foe's above 2; behind 4 a further own one leads back below.
GATE = Machine(
    1, ((), (), (), ((1, 0, (6, 1)),)),
    (
        ("own", 0, 1, ((0, 1, (-1, 1)),), ()), ("foe", 0, 2, ((0, 1, (-2, 0)),), ()),
        ("own", 3, 0, ((0, 1, (-4, 0)),), (1,)), ("own", 3, 2, (), ()),
    ),
)

LOW, FROM = span(0, 1, 2, 1), span(1, 1, None, 0)

PAPER = ((0, LOW, 0, FROM), (3, span(0, 1, 6, 1), 2, span(4, 0, 6, 1)))


def papers_of(machine, goals):
    """An own paper made as [13.3] tells: of each round, each own deed, and each lot at which it leads into the round ahead."""
    found = []
    for field in rounds(machine, goals):
        bads = led_out(machine, field)
        for place in range(len(machine.places)):
            for deed in () if place in goals else deeds_at(machine, place, "own"):
                for target in ahead_of_deed(machine, deed, field[machine.deeds[deed][2]]):
                    found.extend([(place, lot, deed, target) for lot in way(machine, place, (target,), bads[place])])
    return tuple(found)


class PaperTest(unittest.TestCase):
    def test_just_the_won_standings(self):
        # [13.3]
        many = 0
        for machine, goals, plain, ranks, _ in games_won():
            paper = own_paper(machine, goals)
            many = max(many, len(paper))
            self.assertIs(is_own_paper(machine, goals, paper), True, (machine.places, machine.deeds, goals))
            field = paper_field(machine, goals, paper)
            self.assertIs(is_field(machine, field), True)
            self.assertIs(are_equal_fields(machine, field, won_field(machine, goals)), True)
            for key in plain.standings:
                self.assertIs(field_has(machine, field, plain.standing(key)), key in ranks)
        self.assertGreater(many, 8)

    def test_papers_by_the_rounds(self):
        # [13.3]: what others make is taken as well.
        for machine, goals, _, _, _ in games_won()[:60]:
            paper = papers_of(machine, goals)
            self.assertIs(is_own_paper(machine, goals, paper), True)
            self.assertIs(are_equal_fields(machine, paper_field(machine, goals, paper), won_field(machine, goals)), True)

    def test_none_of_the_lots_of_the_field_is_within_another_one(self):
        for machine, goals, _, _, _ in games_won()[:60]:
            for paper in (own_paper(machine, goals), papers_of(machine, goals)):
                for area in paper_field(machine, goals, paper):
                    self.assertIs(is_area(machine.clocks, area), True)
                    for one, other in permutations(area, 2):
                        self.assertIs(is_lot_within(one, other), False)

    def test_no_goals_all_goals_no_clocks_four_clocks(self):
        for machine, goals, _, _, _ in games_won()[:30]:
            every = tuple(range(len(machine.places)))
            for some in ((), every):
                self.assertEqual(own_paper(machine, some), ())
                self.assertIs(is_own_paper(machine, some, ()), True)
                self.assertIs(are_equal_fields(machine, paper_field(machine, some, ()), won_field(machine, some)), True)
        free, nought = Machine(0, ((), (), ()), (("own", 0, 1, (), ()), ("foe", 0, 0, (), ()), ("own", 2, 1, (), ()))), everything(0)
        self.assertEqual(own_paper(free, (1,)), ((2, nought, 2, nought),))
        self.assertIs(is_own_paper(free, (1,), ((0, nought, 0, nought),)), False)
        self.assertIs(is_own_paper(free, (0, 1), ((2, nought, 2, nought),) * 3), True)

    def test_many_rows(self):
        machine = wheels(12, 7)
        own = Machine(2, machine.places, tuple(("own", *told[1:]) for told in machine.deeds))
        paper = own_paper(own, (1,))
        self.assertGreater(len(paper), 15)
        self.assertIs(is_own_paper(own, (1,), paper), True)
        self.assertIs(is_own_paper(own, (1,), paper[::-1]), False)
        self.assertIs(is_own_paper(own, (1,), paper[1:]), False)


class JudgeTest(unittest.TestCase):
    def judge(self, *rows):
        return is_own_paper(GATE, (1,), rows)

    def test_rows(self):
        self.assertIs(self.judge(), True)
        self.assertIs(self.judge(*PAPER), True)
        self.assertIs(self.judge(PAPER[0]), True)
        # A row that leans on one behind it, or on one that is not there.
        self.assertIs(self.judge(*PAPER[::-1]), False)
        self.assertIs(self.judge(PAPER[1]), False)
        # Rows twice, rows whose lot is lesser, in parts, and a target that is lesser.
        self.assertIs(self.judge(PAPER[0], PAPER[0], PAPER[1], PAPER[0], PAPER[1]), True)
        self.assertIs(self.judge((0, span(1, 0, 2, 0), 0, FROM)), True)
        self.assertIs(self.judge((0, span(0, 1, 1, 0), 0, FROM), (0, span(1, 1, 2, 1), 0, FROM), PAPER[1]), True)
        self.assertIs(self.judge((0, LOW, 0, span(2, 1, 2, 1)), PAPER[1]), True)
        self.assertIs(self.judge((0, span(2, 1, 2, 1), 0, FROM), PAPER[1]), False)
        self.assertIs(self.judge((0, span(0, 1, 0, 1), 0, FROM), PAPER[1]), True)

    def test_places_and_deeds(self):
        self.assertIs(self.judge((1, LOW, 0, FROM)), False)
        self.assertIs(is_own_paper(GATE, (0, 1), PAPER), False)
        self.assertIs(is_own_paper(GATE, (0, 1), PAPER[1:]), True)
        self.assertIs(is_own_paper(GATE, (2,), PAPER), False)
        self.assertIs(is_own_paper(GATE, (), PAPER), False)
        for deed in (1, 2, 3, 4, -1):
            self.assertIs(self.judge((0, LOW, deed, FROM)), False)
        for place in (2, 3, 4, -1):
            self.assertIs(self.judge((place, LOW, 0, FROM)), False)
        self.assertIs(self.judge(PAPER[0], (3, span(0, 1, 6, 1), 3, span(4, 0, 6, 1))), False)

    def test_targets(self):
        # At some point the deed is not open, by its rules, by the limits of its start; or leads elsewhere.
        self.assertIs(self.judge((0, LOW, 0, span(1, 0, None, 0))), True)
        self.assertIs(self.judge((0, span(0, 1, 1, 1), 0, span(0, 1, 2, 1))), False)
        self.assertIs(self.judge((0, LOW, 0, span(1, 1, 2, 1))), True)
        self.assertIs(self.judge(PAPER[0], (3, span(0, 1, 6, 1), 2, span(4, 1, 6, 1))), False)
        self.assertIs(self.judge(PAPER[0], (3, span(0, 1, 6, 1), 2, span(4, 0, None, 0))), False)
        self.assertIs(self.judge((0, span(1, 1, 2, 1), 0, FROM), PAPER[1]), False)
        over = Machine(1, ((), (), ((1, 0, (3, 1)),)), (("own", 0, 2, (), ()), ("own", 2, 1, (), ())))
        rows = ((2, span(0, 1, 3, 1), 1, span(0, 1, 3, 1)), (0, span(0, 1, 3, 1), 0, span(0, 1, 3, 1)))
        self.assertIs(is_own_paper(over, (1,), rows), True)
        self.assertIs(is_own_paper(over, (1,), (rows[0], (0, span(0, 1, 3, 1), 0, span(0, 1, 4, 1)))), False)

    def test_targets_that_lead_into_several_lots_together(self):
        step = Machine(1, ((), (), ()), (("own", 0, 1, (), ()), ("own", 2, 0, (), ())))
        parts = tuple((0, span(*ends), 0, span(*ends)) for ends in ((0, 1, 2, 0), (2, 1, 4, 0), (4, 1, None, 0)))
        last = (2, everything(1), 1, everything(1))
        self.assertIs(is_own_paper(step, (1,), parts + (last,)), True)
        self.assertIs(is_own_paper(step, (1,), parts[:2] + (last,)), False)
        self.assertIs(is_own_paper(step, (1,), parts[::2] + (last,)), False)

    def test_targets_that_lead_into_lots_that_make_up_none(self):
        step = Machine(2, ((), (), ()), (("own", 0, 1, ((1, 0, (3, 1)), (2, 0, (3, 1))), ()), ("own", 2, 0, (), ())))

        def box(*ends):
            (low, high), (its_low, its_high) = ends
            rules = ((0, 1, (-low, 1)), (0, 2, (-its_low, 1)), (1, 0, (high, 1)), (2, 0, (its_high, 1)))
            return lot_or_ring(2, rules)[1]

        parts = tuple((0, lot, 0, lot) for lot in (box((0, 1), (0, 3)), box((1, 3), (0, 2))))
        for target, expected in ((box((0, 2), (0, 2)), True), (box((0, 3), (0, 2)), True), (box((0, 2), (0, 3)), False), (box((1, 1), (0, 3)), True)):
            self.assertIs(is_own_paper(step, (1,), parts + ((2, target, 1, target),)), expected)
            self.assertIs(is_own_paper(step, (1,), parts[:1] + ((2, target, 1, target),)), target == box((1, 1), (0, 3)))

    def test_lots(self):
        # A foe deed that leads out is met on the way, or at the very end of it; and beyond the limits.
        self.assertIs(self.judge((0, span(0, 1, 2, 1), 0, span(3, 1, None, 0))), False)
        self.assertIs(self.judge((0, span(0, 1, 3, 1), 0, FROM)), False)
        self.assertIs(self.judge((0, span(2, 0, 3, 1), 0, FROM)), False)
        self.assertIs(self.judge(PAPER[0], (3, span(0, 1, None, 0), 2, span(4, 0, 6, 1))), False)
        self.assertIs(self.judge(PAPER[0], (3, span(0, 1, 7, 1), 2, span(4, 0, 6, 1))), False)
        bell = Machine(1, ((), (), ()), (("own", 0, 1, ((0, 1, (-2, 1)),), ()), ("foe", 0, 2, ((0, 1, (-2, 1)),), ())))
        for end in (0, 1):
            self.assertIs(is_own_paper(bell, (1,), ((0, span(0, 1, 2, end), 0, span(2, 1, None, 0)),)), False)
            self.assertIs(is_own_paper(bell, (1, 2), ((0, span(0, 1, 2, end), 0, span(2, 1, None, 0)),)), True)

    def test_just_what_a_plain_look_takes(self):
        random = seeded("bent papers")
        found = {True: 0, False: 0}
        for machine, goals, plain in bounded_games():
            paper = own_paper(machine, goals)
            for _ in range(30 if paper else 0):
                bent = self.bent(random, machine, paper)
                expected = plain.is_own_paper(goals, bent)
                found[expected] += 1
                self.assertIs(is_own_paper(machine, goals, bent), expected, (machine.places, machine.deeds, goals, bent))
        self.assertGreater(min(found.values()), 100)

    def bent(self, random, machine, paper):
        """The paper with a row left out, told twice, told elsewhere, or with one of its parts bent."""
        rows, index = list(paper), random.randrange(len(paper))
        place, lot, deed, target = rows[index]
        kind = random.choice(("less", "twice", "moved", "deed", "lot", "lot", "lot", "target", "target"))
        if kind == "less":
            del rows[index]
        elif kind == "twice":
            rows.insert(random.randrange(len(rows) + 1), rows[index])
        elif kind == "moved":
            rows.insert(random.randrange(len(rows)), rows.pop(index))
        elif kind == "deed":
            rows[index] = (place, lot, random.randrange(len(machine.deeds)), target)
        elif kind == "lot":
            rows[index] = (place, self.within(bent_lot(random, lot), machine.places[place]) or lot, deed, target)
        else:
            rows[index] = (place, lot, deed, self.within(bent_lot(random, target), machine.places[place]) or target)
        return tuple(rows)

    def within(self, lot, rules):
        """The lot of the points that keep the rules, too; None for none."""
        if lot is None:
            return None
        kind, found = lot_or_ring(len(lot) - 1, rules + tuple(
            (i, j, bound) for i, row in enumerate(lot) for j, bound in enumerate(row) if i != j and bound is not None
        ))
        return found if kind == "lot" else None

    def test_values_of_another_kind(self):
        row = PAPER[0]
        values = [None, True, 0, "", "ab", [], {}, [row], (row,) + ([*row],), row, (row[:3],), (row + (0,),), ((),), nested(20), GATE]
        for part in (True, False, None, "0", (), (0,), [0], GREATEST, TOO_GREAT, 10 ** 5000, GATE):
            values.extend([((part,) + row[1:],), ((0, part, 0, FROM),), ((0, LOW, part, FROM),), ((0, LOW, 0, part),)])
        for lot in (everything(0), everything(2), (((0, 1), (0, 1)), ((2, 2), (0, 1))), (((0, 1), (1, 1)), ((2, 1), (0, 1))), (LOW,), [*LOW]):
            values.extend([((0, lot, 0, FROM),), ((0, LOW, 0, lot),)])
        for value in values:
            self.assertIs(is_own_paper(GATE, (1,), value), False)


class OffersTest(Calls, unittest.TestCase):
    def test_the_row_at_a_standing(self):
        paper = ((0, span(0, 1, 1, 1), 0, FROM),) + PAPER + ((0, span(1, 1, 2, 1), 0, FROM),)
        found = [row_at(GATE, (1,), paper, at(*told)) for told in ((0,), (1,), (3, 2), (2,), (5, 2), (0, 1, 3), (6, 1, 3), (0, 1, 1), (0, 1, 2))]
        self.assertEqual(found, [0, 0, 1, 1, None, 2, 2, None, None])
        self.assertIs(row_at(GATE, (1,), (), at(0)), None)

    def test_offers(self):
        found = [offer_by(GATE, (1,), PAPER, at(*told)) for told in ((0,), (1,), (3, 2), (2,), (5, 2), (4, 1, 3), (17, 3, 3), (6, 1, 3), (0, 1, 1))]
        self.assertEqual(found, [((1, 1), 0), ((0, 1), 0), ((0, 1), 0), ((0, 1), 0), None, ((1, 1), 2), ((0, 1), 2), ((0, 1), 2), None])
        # What does is what waits into the target of the first row, past what is bad for it, be there simpler ones.
        rows = ((0, LOW, 0, span(1, 0, 2, 0)), (0, LOW, 0, FROM))
        self.assertEqual(offer_by(GATE, (1,), rows[1:], at(0)), ((1, 1), 0))
        paper = ((0, span(0, 1, 2, 0), 0, span(1, 0, 2, 0)), (0, LOW, 0, FROM))
        self.assertEqual(offer_by(GATE, (1,), paper, at(0)), ((3, 2), 0))
        self.assertEqual(offer_by(GATE, (1,), paper, at(2)), ((0, 1), 0))
        # A later row that has the standing lets further pauses.
        for pause, first, both in (((1, 1), False, True), ((3, 2), True, True), ((2, 1), False, True), ((6, 4), True, True), ((5, 2), False, False)):
            self.assertIs(is_offer_by(GATE, (1,), paper[:1], at(0), (pause, 0)), first)
            self.assertIs(is_offer_by(GATE, (1,), paper, at(0), (pause, 0)), both)

    def test_offers_past_what_leads_out_of_the_field_of_the_row(self):
        # The foe's deed leads to what the second row has: it is bad for the first row, not for a later one.
        machine = Machine(1, ((), (), ()), (("own", 0, 1, ((0, 1, (-1, 1)),), ()), ("foe", 0, 2, ((0, 1, (-2, 0)),), ()), ("own", 2, 1, (), ())))
        rows = ((0, LOW, 0, FROM), (2, everything(1), 2, everything(1)), (0, everything(1), 0, FROM))
        self.assertIs(is_own_paper(machine, (1,), rows), True)
        self.assertIs(is_own_paper(machine, (1,), rows[::2]), False)
        for pause, first, last in (((2, 1), True, True), ((5, 2), False, True), ((9, 1), False, True), ((1, 2), False, False)):
            self.assertIs(is_offer_by(machine, (1,), rows[:2], at(0), (pause, 0)), first)
            self.assertIs(is_offer_by(machine, (1,), rows, at(0), (pause, 0)), last)
        self.assertEqual(offer_by(machine, (1,), rows, at(5)), ((0, 1), 0))
        self.assertEqual(offer_by(machine, (1,), rows, at(0)), ((1, 1), 0))

    def test_what_leads_into_the_lot_of_the_row_itself_is_bad_for_it(self):
        ring = Machine(1, ((), ()), (("own", 0, 1, ((0, 1, (-1, 1)),), ()), ("foe", 0, 0, ((0, 1, (-1, 0)),), (1,))))
        low, rest = span(0, 1, 1, 1), (0, everything(1), 0, everything(1))
        paper = ((0, low, 0, FROM),)
        self.assertIs(is_own_paper(ring, (1,), paper), True)
        self.assertIs(is_own_paper(ring, (1,), (rest,)), False)
        for pause, expected in (((1, 1), True), ((3, 2), False), ((1, 2), False)):
            self.assertIs(is_offer_by(ring, (1,), paper, at(0), (pause, 0)), expected)
        # Of a later row it is let.
        paper = paper + ((0, everything(1), 0, FROM),)
        self.assertIs(is_own_paper(ring, (1,), paper), True)
        self.assertIs(is_offer_by(ring, (1,), paper, at(0), ((3, 2), 0)), True)
        self.assertEqual(offer_by(ring, (1,), paper, at(5, 2)), ((0, 1), 0))

    def test_just_the_offers_of_rows(self):
        random = seeded("row offers")
        found = {True: 0, False: 0}
        for machine, goals, plain in drawn_games():
            paper = own_paper(machine, goals)
            paper = paper + paper[:3]
            for standing in looked_standings(random, machine, plain, 4):
                told = offer_by(machine, goals, paper, standing)
                index = row_at(machine, goals, paper, standing)
                self.assertEqual(index, next(iter(self.rows_of(paper, standing)), None))
                self.assertIs(told is None, index is None)
                if told is not None:
                    self.assertEqual(told, self.simplest(machine, goals, paper, index, standing))
                    self.assertIs(is_offer_by(machine, goals, paper, standing, told), True)
                told = self.rows_told(machine, goals, paper, standing)
                pauses = moments(machine, shown_by(standing[1]))
                for pause in random.sample(pauses, min(4, len(pauses))):
                    for deed in {deed for deed, _, _ in told} | {random.randrange(len(machine.deeds))}:
                        value = ((pause.numerator * 2, pause.denominator * 2), deed)
                        expected = any(
                            each == deed and is_pause_for(machine, standing, (target,), bads, value[0]) for each, target, bads in told
                        )
                        found[expected] += 1
                        self.assertIs(is_offer_by(machine, goals, paper, standing, value), expected)
        self.assertGreater(min(found.values()), 200)

    def rows_told(self, machine, goals, paper, standing):
        """The deed, the target and the bads of each row that has the standing."""
        return [
            (paper[index][2], paper[index][3], self.bads(machine, goals, paper, index)) for index in self.rows_of(paper, standing)
        ]

    def rows_of(self, paper, standing):
        return [index for index, row in enumerate(paper) if row[0] == standing[0] and self.has(row[1], standing[1])]

    def has(self, lot, point):
        shown = shown_by(point)
        return all(
            bound is None or (shown[i] - shown[j], 0) < (bound[0], bound[1])
            for i, row in enumerate(lot) for j, bound in enumerate(row)
        )

    def bads(self, machine, goals, paper, index):
        """Where the foe leads out of the goal places and of the rows ahead."""
        gone = tuple(
            (limits(machine, place),) if place in goals else tuple(row[1] for row in paper[:index] if row[0] == place)
            for place in range(len(machine.places))
        )
        return led_out(machine, gone)[paper[index][0]]

    def simplest(self, machine, goals, paper, index, standing):
        pause = pause_for(machine, standing, (paper[index][3],), self.bads(machine, goals, paper, index))
        return (pause, paper[index][2])

    def test_offers_of_another_kind(self):
        for value in (None, True, 0, "", (), ((1, 1),), ((1, 1), 0, 0), [(1, 1), 0], ([1, 1], 0), ((1, 1), False), ((1, 1), None), ((1, 0), 0),
                      ((-1, 1), 0), ((True, 1), 0), ((1, 1), 1), ((1, 1), 4), ((1, 1), -4), ((TOO_GREAT, TOO_GREAT), 0), ((1, 1), [0]), GATE):
            self.assertIs(is_offer_by(GATE, (1,), PAPER, at(0), value), False)
        self.assertIs(is_offer_by(GATE, (1,), PAPER, at(0), ((GREATEST, GREATEST), 0)), True)
        self.assertIs(is_offer_by(GATE, (1,), PAPER, at(5, 2), ((0, 1), 0)), False)

    def test_papers_that_are_none(self):
        for paper in (PAPER[::-1], PAPER[1:], [*PAPER], PAPER[0], None, (None,)):
            for call in (row_at, offer_by, lambda *told: is_offer_by(*told, None)):
                self.assert_refused(InvalidOperation, call, GATE, (1,), paper, at(0))
                self.assert_refused(InvalidOperation, call, GATE, (1,), paper, None)
            self.assert_refused(InvalidOperation, paper_field, GATE, (1,), paper)
        self.assert_refused(InvalidOperation, paper_field, GATE, (2,), PAPER)
        self.assert_refused(InvalidPlaces, paper_field, GATE, (4,), PAPER[::-1])
        self.assert_refused(InvalidStanding, offer_by, GATE, (1,), PAPER, at(7, 1, 3))


class PlaysTest(unittest.TestCase):
    def test_goals_are_come_to_whatever_is_answered(self):
        # [13.2]: behind at most as many offers as there are rows; each one leads to a row ahead.
        random = seeded("own plays")
        found = 0
        for machine, goals, plain, ranks, _ in games_won():
            paper = own_paper(machine, goals)
            keys = random.sample(sorted(ranks), min(6, len(ranks)))
            for standing in [plain.standing(key) for key in keys]:
                begin, turns, index = standing, [], len(paper)
                while standing[0] not in goals:
                    before, index = index, row_at(machine, goals, paper, standing)
                    self.assertLess(index, before)
                    offer = offer_by(machine, goals, paper, standing)
                    self.assertIs(is_offer(machine, standing, offer), True)
                    turns.append((offer, drawn_answer(random, machine, standing, offer)))
                    standing = behind(machine, standing, *turns[-1])
                found += len(turns) > 1
                self.assertEqual(played(machine, begin, goals, tuple(turns))[1], "won")
        self.assertGreater(found, 30)

    def test_offers_by_later_rows_win_as_well(self):
        random = seeded("later rows")
        found = 0
        for machine, goals, plain, ranks, _ in games_won()[:90]:
            paper = papers_of(machine, goals)
            for key in random.sample(sorted(ranks), min(3, len(ranks))):
                standing, index = plain.standing(key), len(paper)
                while standing[0] not in goals:
                    rows = [
                        at for at, row in enumerate(paper[:index])
                        if row[0] == standing[0] and row_at(machine, goals, paper[:at] + (row,), standing) is not None
                    ]
                    before, index = index, random.choice(rows)
                    self.assertLess(index, before)
                    found += index > rows[0]
                    offer = offer_by(machine, goals, paper[:index + 1], standing)
                    self.assertIs(is_offer_by(machine, goals, paper, standing, offer), True)
                    standing = behind(machine, standing, offer, drawn_answer(random, machine, standing, offer))
        self.assertGreater(found, 20)


class NotTrueTest(unittest.TestCase):
    """[13.5]"""

    def test_the_first_row_need_not_have_the_greatest_lot(self):
        rows = ((0, span(1, 1, 1, 1), 0, FROM), (0, LOW, 0, FROM))
        self.assertIs(is_own_paper(GATE, (1,), rows), True)
        self.assertIs(is_within_field(GATE, paper_field(GATE, (1,), rows), paper_field(GATE, (1,), rows[:1])), False)

    def test_a_row_less_at_the_end_can_leave_the_field(self):
        rows = ((0, LOW, 0, FROM), (0, span(1, 1, 1, 1), 0, FROM))
        self.assertIs(are_equal_fields(GATE, paper_field(GATE, (1,), rows), paper_field(GATE, (1,), rows[:1])), True)

    def test_the_row_at_a_standing_can_be_of_an_earlier_round(self):
        rows = PAPER + ((0, LOW, 0, FROM),)
        self.assertEqual((rank(GATE, (1,), at(1)), row_at(GATE, (1,), rows, at(1))), (1, 0))
        self.assertEqual((rank(GATE, (1,), at(5, 1, 3)), row_at(GATE, (1,), rows, at(5, 1, 3))), (2, 1))

    def test_an_offer_by_a_paper_need_not_have_the_least_pause(self):
        self.assertIs(is_offer_by(GATE, (1,), PAPER, at(0), ((2, 1), 0)), True)
        self.assertIs(is_offer_by(GATE, (1,), PAPER, at(1, 3), ((2, 3), 0)), True)
        self.assertEqual(offer_by(GATE, (1,), PAPER, at(1, 3)), ((1, 1), 0))
        self.assertEqual(offer_by(GATE, (1,), ((0, LOW, 0, span(2, 1, 2, 1)),), at(0)), ((2, 1), 0))


if __name__ == "__main__":
    unittest.main()
