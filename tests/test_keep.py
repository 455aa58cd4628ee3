"""[15.1] to [15.6]: safe offers, kept fields, hunts, ranks, and plays by both."""

import unittest
from fractions import Fraction
from itertools import permutations

from pauseplay.errors import InvalidField, InvalidOperation, InvalidPlaces, InvalidStanding
from pauseplay.game.foe import foe_paper
from pauseplay.game.keep import hunt, hunt_answer, hunt_rank, is_hunt, is_hunt_answer, is_keep_offer, is_kept_field
from pauseplay.game.keep import is_kept_or_hunted, keep_offer, kept_field, kept_or_hunted, safe_by
from pauseplay.game.plays import behind, is_offer, offers_at
from pauseplay.game.ways import way
from pauseplay.game.won import led_into, led_out, won_or_held
from pauseplay.lots.areas import are_equal, less
from pauseplay.lots.lots import everything, is_lot_within
from pauseplay.lots.moves import earlier_lot
from pauseplay.machine.fields import are_equal_fields, field_has, is_field, is_within_field, joined, places_field, rest
from pauseplay.machine.machines import Machine, limits, without_deed
from pauseplay.machine.runs import done, pauses_for, waited
from tests.drawn import drawn_field, is_in_some, point_showing, seeded, shown_by
from tests.kinds import GREATEST, TOO_GREAT, Calls, nested
from tests.plain import grown, is_open_at, led_to, let_moments, looked_standings, plain_key
from tests.plain_games import drawn_answer, guarded_games, pauses_in
from tests.test_foe import drawn_offer
from tests.test_reach import wheels
from tests.test_ways import at, span

# From 1 on one can begin anew; above 1 the foe can lead to place 1.
WATCH = Machine(1, ((), ()), (("own", 0, 0, ((0, 1, (-1, 1)),), (1,)), ("foe", 0, 1, ((0, 1, (-1, 0)),), ())))

LOW, HIGH, ALL = span(0, 1, 1, 1), span(1, 0, None, 0), everything(1)

# The foe leads on, one place after the other, at the moments 1, 2 and 3 alone; one can go to place 4 below 1.
STEPS = Machine(
    1, ((), (), (), (), ()),
    tuple(("foe", place, place + 1, ((0, 1, (-1 - place, 1)), (1, 0, (1 + place, 1))), ()) for place in range(3))
    + (("own", 0, 4, ((1, 0, (1, 0)),), ()), ("own", 4, 0, (), (1,)), ("own", 1, 0, ((0, 1, (-5, 1)),), ())),
)

NOTHING = ((), (), (), (), ())

CHASE = ((((), (), (span(0, 1, 3, 1),), (), ())), ((), (span(0, 1, 2, 1),), (), (), ()))


def drawn_keys(random, plain, bads):
    """Keys of a kept field, perhaps with a few taken out or put in; or drawn ones."""
    kept, _ = plain.kept_and_taken(bads)
    kind = random.choice(("kept", "less", "less", "more", "drawn", "place"))
    if kind == "kept":
        return kept
    if kind == "less":
        return kept - set(random.sample(sorted(kept), min(len(kept), random.randint(1, 3))))
    if kind == "more":
        return kept | set(random.sample(sorted(plain.standings), 1))
    if kind == "place":
        place = random.randrange(len(plain.machine.places))
        return {key for key in kept if key[0] == place}
    return set(random.sample(sorted(plain.standings), min(len(plain.standings), random.randint(1, 6))))


class SafeTest(unittest.TestCase):
    def test_just_the_standings_with_a_safe_offer(self):
        # [15.2]
        random = seeded("safe by")
        found = {True: 0, False: 0}
        for machine, bads, plain in guarded_games():
            keys = set(random.sample(sorted(plain.standings), random.randint(0, len(plain.standings))))
            field = safe_by(machine, bads, plain.field(keys))
            self.assertIs(is_field(machine, field), True)
            safe = plain.safe_ones(bads, keys)
            for key in plain.standings:
                found[key in safe] += 1
                place, point = plain.standing(key)
                self.assertIs(is_in_some(field[place], point), key in safe, (machine.places, machine.deeds, bads, keys, key))
            for area in field:
                for one, other in permutations(area, 2):
                    self.assertIs(is_lot_within(one, other), False)
        self.assertGreater(min(found.values()), 500)

    def test_it_is_what_cannot_wait_into_what_leads_out_and_the_way(self):
        # [15.2]
        random = seeded("safe ways")
        for machine, bads, _ in guarded_games()[:40]:
            field = drawn_field(random, machine)
            found, goods, met = safe_by(machine, bads, field), led_into(machine, field), led_out(machine, field)
            for place, area in enumerate(found):
                never = less((limits(machine, place),), tuple(earlier_lot(lot) for lot in met[place]))
                expected = () if place in bads else never + way(machine, place, goods[place], met[place])
                self.assertIs(are_equal(area, expected), True)

    def test_a_field_with_bads_is_let(self):
        every = places_field(WATCH, (0, 1))
        self.assertIs(are_equal_fields(WATCH, safe_by(WATCH, (1,), every), places_field(WATCH, (0,))), True)
        self.assertIs(are_equal_fields(WATCH, safe_by(WATCH, (1,), ((ALL,), ())), ((LOW,), ())), True)
        self.assertIs(are_equal_fields(WATCH, safe_by(WATCH, (1,), ((), ())), ((), ())), True)
        self.assertIs(are_equal_fields(WATCH, safe_by(WATCH, (), ((), ())), ((), (ALL,))), True)
        self.assertIs(are_equal_fields(WATCH, safe_by(WATCH, (), every), every), True)


class KeptFieldsTest(unittest.TestCase):
    def test_the_greatest_one_and_a_hunt_for_the_rest(self):
        # [15.3], [15.5]
        lengths = {}
        for machine, bads, plain in guarded_games():
            keys, taken = plain.kept_and_taken(bads)
            field, fields = kept_field(machine, bads), hunt(machine, bads)
            lengths[len(taken)] = lengths.get(len(taken), 0) + 1
            self.assertIs(is_kept_field(machine, bads, field), True)
            self.assertIs(is_hunt(machine, bads, fields), True)
            for key in plain.standings:
                standing = plain.standing(key)
                place, point = standing
                self.assertIs(is_in_some(field[place], point), key in keys, (machine.places, machine.deeds, bads, key))
                rank = 0 if place in bads else next((turn for turn, some in enumerate(taken, start=1) if key in some), None)
                self.assertIs(any(is_in_some(each[place], point) for each in fields) or place in bads, rank is not None)
            for each in (field,) + fields:
                for area in each:
                    for one, other in permutations(area, 2):
                        self.assertIs(is_lot_within(one, other), False)
        for many in (0, 1, 2):
            self.assertGreater(lengths[many], 5)
        self.assertGreater(max(lengths), 3)

    def test_just_the_kept_ones(self):
        random = seeded("kept")
        found = {True: 0, False: 0}
        for machine, bads, plain in guarded_games():
            greatest = kept_field(machine, bads)
            held = []
            for _ in range(6):
                keys = drawn_keys(random, plain, bads)
                expected = plain.is_kept(bads, keys)
                found[expected] += 1
                field = plain.field(keys)
                self.assertIs(is_kept_field(machine, bads, field), expected, (machine.places, machine.deeds, bads, field))
                if expected:
                    self.assertIs(is_within_field(machine, field, greatest), True)
                    held.append(field)
            for one, other in zip(held, held[1:]):
                self.assertIs(is_kept_field(machine, bads, joined(machine, one, other)), True)
        self.assertGreater(min(found.values()), 80)

    def test_edges(self):
        every = places_field(WATCH, (0, 1))
        self.assertIs(are_equal_fields(WATCH, kept_field(WATCH, ()), every), True)
        self.assertEqual(kept_field(WATCH, (0, 1)), ((), ()))
        self.assertEqual([hunt(WATCH, ()), hunt(WATCH, (0, 1))], [(), ()])
        for bads in ((), (0,), (1,), (0, 1)):
            self.assertIs(is_kept_field(WATCH, bads, ((), ())), True)
            self.assertIs(is_kept_field(WATCH, bads, every), bads == ())
        self.assertIs(is_kept_field(WATCH, (1,), ((LOW,), ())), True)
        # Who can begin anew at 1 alone has to be let back to nought.
        self.assertIs(is_kept_field(WATCH, (1,), ((span(0, 0, 1, 1),), ())), False)
        self.assertIs(is_kept_field(WATCH, (1,), ((span(0, 1, 0, 1), span(1, 1, 1, 1)), ())), True)
        self.assertIs(is_kept_field(WATCH, (1,), ((span(0, 1, 0, 1),), ())), True)
        self.assertIs(is_kept_field(WATCH, (1,), ((LOW, LOW, span(0, 1, 0, 1)), ())), True)
        self.assertIs(is_kept_field(WATCH, (1,), ((span(0, 1, 1, 0), span(1, 1, 1, 1)), ())), True)
        self.assertIs(is_kept_field(WATCH, (1,), ((LOW, span(1, 0, 2, 1)), ())), False)
        self.assertIs(is_kept_field(without_deed(WATCH, 0), (1,), ((LOW,), ())), False)
        self.assertIs(is_kept_field(without_deed(WATCH, 1), (1,), ((LOW,), ())), True)
        free, nought = Machine(0, ((), ()), (("foe", 0, 1, (), ()), ("own", 0, 0, (), ()))), everything(0)
        self.assertIs(is_kept_field(free, (1,), ((nought,), ())), False)
        self.assertIs(is_kept_field(free, (0,), ((), (nought,))), True)
        self.assertEqual(kept_field(free, (1,)), ((), ()))
        self.assertEqual(hunt(free, (1,)), (((nought,), ()),))

    def test_four_clocks(self):
        # At the bad place if all clocks show 1 at once; each one can be set back from 1 on.
        machine = wheels(1, 1, 1, 1)
        self.assertIs(is_kept_field(machine, (1,), kept_field(machine, (1,))), True)
        self.assertIs(is_hunt(machine, (1,), hunt(machine, (1,))), True)
        self.assertEqual(kept_or_hunted(machine, (1,), (0, (1, (1, 1, 1, 1))))[0], "hunted")
        self.assertEqual(kept_or_hunted(machine, (1,), (0, (2, (1, 1, 1, 2))))[0], "kept")

    def test_values_of_another_kind(self):
        values = [None, True, 0, "", "ab", (), [], {}, [(LOW,), ()], ((LOW,),), ((LOW,), (), ()), (LOW, ()), ([LOW], ()), nested(20), WATCH]
        for lot in (everything(0), everything(2), None, 0, True, (), [*LOW], (((0, 1), (0, 0)), (None, (0, 0))), (((0, 1), (0, True)), (None, (0, 1)))):
            values.extend([((lot,), ()), ((LOW, lot), ())])
        for value in values:
            self.assertIs(is_kept_field(WATCH, (1,), value), False)
            self.assertIs(is_hunt(WATCH, (1,), (value,)), False)
            self.assertIs(is_hunt(WATCH, (1,), (((HIGH,), ()), value)), False)


class HuntsTest(Calls, unittest.TestCase):
    def test_just_the_hunts(self):
        random = seeded("hunts")
        found = {True: 0, False: 0}
        for machine, bads, plain in guarded_games():
            _, taken = plain.kept_and_taken(bads)
            for _ in range(6):
                rounds = self.bent(random, plain, taken)
                expected = plain.is_hunt(bads, rounds)
                found[expected] += 1
                fields = tuple(plain.field(keys) for keys in rounds)
                self.assertIs(is_hunt(machine, bads, fields), expected, (machine.places, machine.deeds, bads, fields))
        self.assertGreater(min(found.values()), 100)

    def bent(self, random, plain, taken):
        """Rounds with one left out, twice, moved, parted, with some standings more or less, or at any place."""
        rounds = list(taken) or [set()]
        index = random.randrange(len(rounds))
        for _ in range(random.randint(0, 2)):
            kind = random.choice(("less", "more", "any", "twice", "out", "moved", "part"))
            index = random.randrange(len(rounds)) if rounds else 0
            if kind in ("more", "any") or not rounds:
                further = set(random.sample(sorted(plain.standings), 1))
                rounds[index:index + 1] = [(rounds[index] if rounds and kind == "more" else set()) | further]
            elif kind == "less":
                rounds[index] = rounds[index] - set(random.sample(sorted(rounds[index]), min(2, len(rounds[index]))))
            elif kind == "twice":
                rounds.insert(random.randrange(len(rounds) + 1), rounds[index])
            elif kind == "out":
                del rounds[index]
            elif kind == "moved":
                rounds.insert(0, rounds.pop(index))
            else:
                some = set(random.sample(sorted(rounds[index]), len(rounds[index]) // 2))
                rounds[index:index + 1] = [some, rounds[index] - some]
        return rounds

    def test_edges(self):
        every = places_field(WATCH, (0, 1))
        for bads in ((), (0,), (1,), (0, 1)):
            self.assertIs(is_hunt(WATCH, bads, ()), True)
            self.assertIs(is_hunt(WATCH, bads, (((), ()),) * 3), True)
            self.assertIs(is_hunt(WATCH, bads, (every,)), bads == (0, 1))
        # Of standings at the bads nothing is asked; fields twice, and more than are needed, do no harm.
        self.assertIs(is_hunt(WATCH, (1,), (((HIGH,), (ALL, LOW)),)), True)
        self.assertIs(is_hunt(WATCH, (1,), (((HIGH,), ()), ((HIGH, HIGH), ()), ((), (ALL,)), ((span(3, 1, 4, 0),), ()))), True)
        self.assertIs(is_hunt(WATCH, (1,), (((HIGH,), ()), ((LOW,), ()))), False)
        self.assertIs(is_hunt(WATCH, (1,), (((span(1, 1, None, 0),), ()),)), False)
        self.assertIs(is_hunt(WATCH, (0,), (((HIGH,), ()),)), True)
        self.assertIs(is_hunt(WATCH, (), (((HIGH,), ()),)), False)
        self.assertIs(is_hunt(without_deed(WATCH, 1), (1,), (((HIGH,), ()),)), False)

    def test_one_field_after_the_other(self):
        low = span(0, 1, 3, 1)
        self.assertIs(is_hunt(STEPS, (3,), CHASE), True)
        self.assertIs(is_hunt(STEPS, (3,), CHASE[::-1]), False)
        self.assertIs(is_hunt(STEPS, (3,), CHASE[1:]), False)
        self.assertIs(is_hunt(STEPS, (3,), CHASE[:1] + (NOTHING,) + CHASE[1:]), True)
        self.assertIs(is_hunt(STEPS, (3,), (((), (span(0, 1, 2, 1),), (low,), (), ()),)), False)
        self.assertIs(is_hunt(STEPS, (2,), ((((), (span(0, 1, 2, 1),), (), (), ())),)), True)
        # At the place 0 one goes away below 1; at 1 the foe is there first; there and at the place 4 one can be for ever.
        last = ((span(1, 1, 1, 1),), (), (), (), ())
        self.assertIs(is_hunt(STEPS, (3,), CHASE + (last,)), True)
        self.assertIs(is_hunt(STEPS, (3,), CHASE + (((span(0, 1, 1, 1),), (), (), (), ()),)), False)
        self.assertIs(are_equal_fields(STEPS, kept_field(STEPS, (3,)), (
            (span(0, 1, 1, 0), span(1, 0, None, 0)), (span(2, 0, None, 0),), (span(3, 0, None, 0),), (), (ALL,),
        )), True)
        self.assertEqual(len(hunt(STEPS, (3,))), 3)
        told = [hunt_rank(STEPS, (3,), CHASE + (last,), standing) for standing in (at(9, 1, 3), at(2, 1, 2), at(2, 1, 1), at(1), at(0), at(5, 2, 1), at(0, 1, 4))]
        self.assertEqual(told, [0, 1, 2, 3, None, None, None])

    def test_ranks(self):
        fields = (((HIGH,), ()),)
        self.assertEqual([hunt_rank(WATCH, (1,), fields, standing) for standing in (at(2), at(1), at(0, 1, 1), at(9, 1, 1))], [1, None, 0, 0])
        twice = (((), (ALL,)), ((span(3, 1, None, 0),), ()), ((HIGH,), ()))
        self.assertEqual([hunt_rank(WATCH, (1,), twice, standing) for standing in (at(3), at(2), at(1), at(3, 1, 1))], [2, 3, None, 0])
        self.assertIsNone(hunt_rank(WATCH, (1,), (), at(3)))
        self.assertEqual(hunt_rank(WATCH, (1,), (), at(3, 1, 1)), 0)

    def test_answers(self):
        fields = (((HIGH,), ()),)
        for standing, offer, expected in (
            (at(3, 2), None, (0, 1, 1)), (at(3, 2), ((1, 1), 0), (0, 1, 1)), (at(3, 2), ((0, 1), 0), (0, 1, 1)),
        ):
            self.assertEqual(hunt_answer(WATCH, (1,), fields, standing, offer), ("deed", expected[:2], expected[2]))
        for value, expected in (
            (("deed", (0, 1), 1), True), (("deed", (1, 2), 1), True), (("deed", (2, 4), 1), True), (("deed", (3, 4), 1), False), (("let",), False),
        ):
            self.assertIs(is_hunt_answer(WATCH, (1,), fields, at(3, 2), ((1, 2), 0), value), expected)
        self.assertIs(is_hunt_answer(WATCH, (1,), fields, at(3, 2), None, ("deed", (GREATEST, 1), 1)), True)
        self.assertIs(is_hunt_answer(WATCH, (1,), fields, at(3, 2), None, ("let",)), False)
        # By lesser and lesser ranks; to waiting on as well.
        self.assertEqual(hunt_answer(STEPS, (3,), CHASE, at(1, 2, 1), None), ("deed", (3, 2), 1))
        self.assertEqual(hunt_answer(STEPS, (3,), CHASE, at(1, 2, 2), None), ("deed", (5, 2), 2))
        # An own deed that leads to a lesser rank by itself is let, another one is not waited for.
        slide = Machine(1, ((), (), ()), (("own", 0, 1, (), ()), ("foe", 0, 2, ((0, 1, (-1, 1)),), ()), ("foe", 0, 1, ((0, 1, (-1, 1)),), ()), ("foe", 0, 0, (), (1,))))
        told = (((ALL,), (), ()),)
        self.assertIs(is_hunt(slide, (1,), told), True)
        self.assertEqual(hunt_answer(slide, (1,), told, at(0), ((0, 1), 0)), ("let",))
        self.assertEqual(hunt_answer(slide, (1,), told, at(0), ((7, 1), 0)), ("let",))
        self.assertEqual(hunt_answer(slide, (1,), told, at(0), None), ("deed", (1, 1), 2))
        self.assertEqual(hunt_answer(slide, (1, 2), told, at(1, 2), None), ("deed", (1, 1), 1))
        self.assertIs(is_hunt_answer(slide, (1,), told, at(0), ((7, 1), 0), ("let",)), True)
        self.assertIs(is_hunt_answer(slide, (1,), told, at(0), ((7, 1), 0), ("deed", (7, 1), 2)), True)
        self.assertIs(is_hunt_answer(slide, (1,), told, at(0), ((7, 1), 0), ("deed", (7, 1), 1)), False)

    def test_just_the_answers_that_lead_to_lesser_ranks(self):
        random = seeded("hunt answers")
        found = {True: 0, False: 0}
        for machine, bads, plain in guarded_games()[:60]:
            fields = hunt(machine, bads)
            for standing in looked_standings(random, machine, plain, 4):
                number = hunt_rank(machine, bads, fields, standing)
                if not number:
                    continue
                offer = random.choice((None, drawn_offer(random, machine, standing)))
                told = hunt_answer(machine, bads, fields, standing, offer)
                self.assertIs(is_hunt_answer(machine, bads, fields, standing, offer, told), True)
                self.assert_least(machine, bads, fields, standing, number, offer, told, found)
        self.assertGreater(min(found.values()), 60)

    def assert_least(self, machine, bads, fields, standing, number, offer, told, found):
        """Just the foe's deeds that lead to a lesser rank are taken, none of them lesser than the one that is told."""
        place, shown = standing[0], tuple(shown_by(standing[1]))
        for pause in let_moments(machine, place, shown):
            for deed, each in enumerate(machine.deeds):
                if each[0] == "foe":
                    expected = False
                    if is_open_at(machine, deed, place, grown(shown, pause)) and (offer is None or pause <= Fraction(*offer[0])):
                        goal, now = led_to(machine, deed, grown(shown, pause))
                        rank = hunt_rank(machine, bads, fields, (goal, point_showing(now[1:])))
                        expected = rank is not None and rank < number
                    found[expected] += 1
                    value = ("deed", (pause.numerator, pause.denominator), deed)
                    self.assertIs(is_hunt_answer(machine, bads, fields, standing, offer, value), expected)
                    self.assertFalse(expected and told != ("let",) and (deed < told[2] or (deed == told[2] and (value[1][1], value[1][0]) < (told[1][1], told[1][0]))))

    def test_answers_of_another_kind(self):
        fields = (((HIGH,), ()),)
        for offer in (None, ((1, 1), 0)):
            for value in (None, True, 0, "let", (), ["let"], ("let", 1), ("deed", (0, 1)), ("deed", (0, 1), 1, 1), ["deed", (0, 1), 1], ("deed", (0, 1), True),
                          ("deed", (0, 1), 0), ("deed", (0, 1), 2), ("deed", (0, 1), -1), ("deed", (-1, 1), 1), ("deed", (1, 0), 1),
                          ("deed", (TOO_GREAT, TOO_GREAT), 1), ("deed", [0, 1], 1), (None, (0, 1), 1), WATCH):
                self.assertIs(is_hunt_answer(WATCH, (1,), fields, at(3), offer, value), False)

    def test_errors(self):
        fields = (((HIGH,), ()),)
        for call in (hunt_answer, lambda *told: is_hunt_answer(*told, None)):
            for standing in (at(1), at(0), at(3, 1, 1), None, at(-1), (2, (1, (5,))), (0, (1, (5, 5)))):
                self.assert_refused(InvalidStanding, call, WATCH, (1,), fields, standing, None)
                self.assert_refused(InvalidStanding, call, WATCH, (1,), fields, standing, ())
            for offer in ((), ((0, 1), 1), ((0, 1), 2), ((0, 1),), ((-1, 1), 0), ("let",), [(0, 1), 0], True):
                self.assert_refused(InvalidOperation, call, WATCH, (1,), fields, at(3), offer)
        for call in (hunt_rank, lambda *told: hunt_answer(*told, None), lambda *told: is_hunt_answer(*told, None, None)):
            for some in ((((LOW,), ()),), None, [((HIGH,), ())], ((HIGH,), ()), (None,), (((HIGH,),),)):
                self.assert_refused(InvalidOperation, call, WATCH, (1,), some, at(3))
                self.assert_refused(InvalidOperation, call, WATCH, (1,), some, None)
                self.assert_refused(InvalidPlaces, call, WATCH, (2,), some, None)
        self.assert_refused(InvalidStanding, hunt_rank, WATCH, (1,), fields, None)


class OffersTest(Calls, unittest.TestCase):
    def test_offers(self):
        field = ((LOW,), ())
        self.assertEqual(keep_offer(WATCH, (1,), field, at(1)), ((0, 1), 0))
        self.assertEqual(keep_offer(WATCH, (1,), field, at(1, 3)), ((2, 3), 0))
        for value, expected in ((((1, 2), 0), True), (((2, 4), 0), True), (((1, 3), 0), False), (((2, 3), 0), False), (None, False)):
            self.assertIs(is_keep_offer(WATCH, (1,), field, at(1, 2), value), expected)
        # Waiting on is safe where nothing is met, or what is met leads into the field.
        self.assertIsNone(keep_offer(WATCH, (), places_field(WATCH, (0, 1)), at(5)))
        self.assertIsNone(keep_offer(WATCH, (0,), ((), (ALL,)), at(5, 1, 1)))
        self.assertIs(is_keep_offer(WATCH, (), places_field(WATCH, (0, 1)), at(5), None), True)
        self.assertIs(is_keep_offer(WATCH, (), places_field(WATCH, (0, 1)), at(5), ((3, 1), 0)), True)
        self.assertIs(is_keep_offer(WATCH, (0,), ((), (ALL,)), at(5, 1, 1), None), True)
        # Of several deeds the least one, and of its pauses the simplest one: the other one could be done at once.
        both = Machine(1, WATCH.places, WATCH.deeds + (("own", 0, 0, (), (1,)),))
        self.assertEqual(keep_offer(both, (1,), field, at(1, 3)), ((2, 3), 0))
        self.assertIs(is_keep_offer(both, (1,), field, at(1, 3), ((0, 1), 2)), True)
        self.assertIs(is_keep_offer(both, (1,), field, at(1, 3), ((3, 4), 2)), False)
        # A deed that is not safe is passed over.
        worse = Machine(1, WATCH.places, (("own", 0, 1, (), ()),) + WATCH.deeds)
        self.assertEqual(keep_offer(worse, (1,), field, at(1, 3)), ((2, 3), 1))

    def test_just_the_offers_that_are_safe(self):
        random = seeded("safe offers")
        found = {True: 0, False: 0}
        waits = {True: 0, False: 0}
        for machine, bads, plain in guarded_games():
            field = kept_field(machine, bads)
            for standing in looked_standings(random, machine, plain, 2):
                if not is_in_some(field[standing[0]], standing[1]):
                    continue
                told = keep_offer(machine, bads, field, standing)
                self.assertIs(is_keep_offer(machine, bads, field, standing, told), True)
                waits[told is None] += 1
                self.assertIs(is_keep_offer(machine, bads, field, standing, None), told is None)
                place, shown = standing[0], tuple(shown_by(standing[1]))
                safe = True
                for pause in let_moments(machine, place, shown):
                    safe = safe and all(self.leads_in(machine, field, place, grown(shown, pause), "foe"))
                    for deed, each in random.sample(list(enumerate(machine.deeds)), min(3, len(machine.deeds))):
                        value = ((pause.numerator, pause.denominator), deed)
                        expected = safe and each[0] == "own" and self.leads_in(machine, field, place, grown(shown, pause), "own", deed) == [True]
                        found[expected] += 1
                        self.assertIs(is_keep_offer(machine, bads, field, standing, value), expected)
                        self.assertFalse(expected and told is not None and (deed, pause.denominator, pause.numerator) < (told[1], told[0][1], told[0][0]))
        self.assertGreater(min(found.values()), 100)
        self.assertGreater(min(waits.values()), 20)

    def leads_in(self, machine, field, place, shown, owner, only=None):
        """For each open deed of the owner, or for one alone, whether it leads into the field."""
        led = [
            led_to(machine, deed, shown) for deed, each in enumerate(machine.deeds)
            if each[0] == owner and only in (None, deed) and is_open_at(machine, deed, place, shown)
        ]
        return [is_in_some(field[goal], point_showing(now[1:])) for goal, now in led]

    def test_offers_of_another_kind(self):
        for value in (True, 0, "", (), ((1, 1),), ((1, 1), 0, 0), [(1, 1), 0], ([1, 1], 0), ((1, 1), False), ((1, 1), None), ((1, 0), 0), ((-1, 1), 0),
                      ((True, 1), 0), ((1, 1), 1), ((1, 1), 2), ((1, 1), -1), ((TOO_GREAT, TOO_GREAT), 0), ((1, 1), [0]), WATCH, ("let",)):
            self.assertIs(is_keep_offer(WATCH, (1,), ((LOW,), ()), at(0), value), False)
        self.assertIs(is_keep_offer(WATCH, (1,), ((LOW,), ()), at(0), ((GREATEST, GREATEST), 0)), True)

    def test_errors(self):
        field = ((LOW,), ())
        for call in (keep_offer, lambda *told: is_keep_offer(*told, None)):
            for other in (((HIGH,), ()), ((LOW,), (LOW,)), ((LOW,),), None, [(LOW,), ()]):
                self.assert_refused(InvalidField, call, WATCH, (1,), other, at(0))
                self.assert_refused(InvalidField, call, WATCH, (1,), other, None)
                self.assert_refused(InvalidPlaces, call, WATCH, (2,), other, None)
            for standing in (at(2), at(0, 1, 1), None, at(-1), (2, (1, (0,))), (0, (1, (0, 0)))):
                self.assert_refused(InvalidStanding, call, WATCH, (1,), field, standing)
        for some in (None, ((LOW,),), ((LOW,), (), ()), ([LOW], ())):
            self.assert_refused(InvalidField, safe_by, WATCH, (1,), some)
            self.assert_refused(InvalidPlaces, safe_by, WATCH, (2,), some)


class EitherOrTest(unittest.TestCase):
    def test_either_or(self):
        # [15.5]
        random = seeded("kept or hunted")
        found = {"kept": 0, "hunted": 0}
        for machine, bads, plain in guarded_games():
            keys, _ = plain.kept_and_taken(bads)
            field, fields = kept_field(machine, bads), hunt(machine, bads)
            for standing in looked_standings(random, machine, plain, 3):
                kind, told = kept_or_hunted(machine, bads, standing)
                found[kind] += 1
                self.assertEqual(kind, "kept" if plain_key(machine, standing) in keys else "hunted")
                self.assertIs(is_kept_or_hunted(machine, bads, standing, (kind, told)), True)
                self.assertIs(is_kept_or_hunted(machine, bads, standing, ("kept", field)), kind == "kept")
                self.assertIs(is_kept_or_hunted(machine, bads, standing, ("hunted", fields)), kind == "hunted")
                self.assertIs(field_has(machine, field, standing), kind == "kept")
                if kind == "hunted":
                    self.assertIsNotNone(hunt_rank(machine, bads, told, standing))
        self.assertGreater(min(found.values()), 60)

    def test_values(self):
        kept, fields = ((LOW,), ()), (((HIGH,), ()),)
        for standing, value, expected in (
            (at(1), ("kept", kept), True), (at(2), ("kept", kept), False), (at(2), ("hunted", fields), True), (at(1), ("hunted", fields), False),
            (at(1, 1, 1), ("hunted", ()), True), (at(1, 1, 1), ("hunted", fields), True), (at(1, 1, 1), ("kept", kept), False),
            (at(2), ("hunted", ()), False), (at(1), ("kept", ((span(0, 1, 0, 1),), ())), False), (at(0), ("kept", ((span(0, 1, 0, 1),), ())), True),
            (at(1), ("hunted", kept), False), (at(2), ("kept", fields), False), (at(1), ["kept", kept], False), (at(1), ("kept", kept, 0), False),
            (at(1), ("Kept", kept), False), (at(1), ("kept",), False), (at(1), kept, False), (at(1), None, False), (at(2), ("hunted", [*fields]), False),
            (at(1), (True, kept), False), (at(1), (("kept",), kept), False), (at(2), ("held", fields), False),
        ):
            self.assertIs(is_kept_or_hunted(WATCH, (1,), standing, value), expected)


class PlaysTest(unittest.TestCase):
    def test_no_bad_is_ever_come_to(self):
        # [15.3]
        random = seeded("kept plays")
        found = 0
        for machine, bads, plain in guarded_games():
            field = kept_field(machine, bads)
            keys = sorted(plain.kept_and_taken(bads)[0])
            for key in random.sample(keys, min(2, len(keys))):
                standing = plain.standing(key)
                for turn in range(8):
                    self.assertNotIn(standing[0], bads)
                    offer = keep_offer(machine, bads, field, standing)
                    answer = self.answer(random, machine, standing, offer)
                    if answer is None:
                        break
                    standing = self.after(machine, standing, offer, answer)
                    self.assertIs(field_has(machine, field, standing), True)
                    found += turn == 7
        self.assertGreater(found, 20)

    def answer(self, random, machine, standing, offer):
        """Any answer, None if waiting on is let, or has no other one."""
        if offer is not None:
            return drawn_answer(random, machine, standing, offer)
        open_ones = [
            ("deed", pause, deed) for deed, told in enumerate(machine.deeds) if told[0] == "foe"
            for pause in pauses_in(pauses_for(machine, standing, deed) or ((0, 1), 0, (0, 1), 0))[:-1]
        ]
        return random.choice(open_ones) if open_ones else None

    def after(self, machine, standing, offer, answer):
        if offer is not None:
            return behind(machine, standing, offer, answer)
        return done(machine, waited(machine, standing, answer[1]), answer[2])

    def test_a_bad_is_come_to_whatever_is_offered(self):
        # [15.4]
        random = seeded("hunted plays")
        found = 0
        for machine, bads, plain in guarded_games():
            fields = hunt(machine, bads)
            for standing in looked_standings(random, machine, plain, 3):
                number = hunt_rank(machine, bads, fields, standing)
                turns = 0
                while number:
                    offers = [None] + [(pause, deed) for deed, stretch in offers_at(machine, standing) for pause in pauses_in(stretch)]
                    offer = random.choice(offers)
                    self.assertTrue(offer is None or is_offer(machine, standing, offer))
                    answer = hunt_answer(machine, bads, fields, standing, offer)
                    standing = self.after(machine, standing, offer, answer)
                    further = hunt_rank(machine, bads, fields, standing)
                    self.assertLess(further, number)
                    number, turns = further, turns + 1
                found += turns > 1
                self.assertIs(number == 0, standing[0] in bads)
        self.assertGreater(found, 20)


class NotTrueTest(unittest.TestCase):
    """[15.6]"""

    def test_what_two_kept_fields_have_in_common_need_not_be_one(self):
        two = Machine(1, ((), (), (), ()), (("own", 0, 1, (), ()), ("own", 0, 2, (), ()), ("foe", 0, 3, ((0, 1, (-1, 1)),), ())))
        one, other, both = ((LOW,), (ALL,), (), ()), ((LOW,), (), (ALL,), ()), ((LOW,), (), (), ())
        low = span(0, 1, 1, 0)
        one, other, both = [((low,),) + field[1:] for field in (one, other, both)]
        self.assertEqual([is_kept_field(two, (3,), field) for field in (one, other, both)], [True, True, False])

    def test_a_rank_can_be_greater_than_the_number_of_places(self):
        machine = wheels(12, 7)
        foes = Machine(2, machine.places, tuple(("foe", *told[1:]) for told in machine.deeds))
        fields = hunt(foes, (1,))
        self.assertGreater(hunt_rank(foes, (1,), fields, (0, (1, (0, 0)))), 10)
        self.assertIs(is_hunt(foes, (1,), fields), True)
        self.assertIs(is_hunt(foes, (1,), fields[1:]), False)

    def test_a_foe_deed_can_be_open_while_a_safe_offer_is_waited_for(self):
        machine = Machine(1, WATCH.places, WATCH.deeds + (("foe", 0, 0, (), ()),))
        self.assertEqual(keep_offer(machine, (1,), ((LOW,), ()), at(0)), ((1, 1), 0))

    def test_what_is_kept_off_need_not_be_held_off(self):
        # One can wait on for ever, so it is kept off; and one can come there, so it is not held off.
        machine = Machine(1, ((), ()), (("own", 0, 1, (), ()),))
        self.assertIs(are_equal_fields(machine, kept_field(machine, (1,)), ((ALL,), ())), True)
        self.assertEqual(won_or_held(machine, (1,), at(0)), ("won", 1))
        self.assertEqual(foe_paper(machine, (1,)), ((), ()))
        # And what is held off by the foe need not be kept off by the player.
        self.assertIs(are_equal_fields(WATCH, rest(WATCH, kept_field(WATCH, (1,))), ((HIGH,), (ALL,))), True)
        self.assertIs(are_equal_fields(WATCH, foe_paper(WATCH, (1,)), ((ALL,), ())), True)


if __name__ == "__main__":
    unittest.main()
