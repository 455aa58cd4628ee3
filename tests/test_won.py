"""[12.1] to [12.7]: led into and out, rounds, ranks, what is won and what is held, more and less."""

import unittest
from itertools import permutations

from pauseplay.game.plays import answers_to, behind, is_offer, offers_at, played
from pauseplay.game.ways import is_pause_for, pause_for, way
from pauseplay.game.won import led_into, led_out, rank, rounds, won_field, won_or_held
from pauseplay.lots.areas import are_equal, common, is_area
from pauseplay.lots.lots import is_lot_within, lot_or_ring
from pauseplay.machine.classes import how_many
from pauseplay.machine.fields import ahead_of_deed, are_equal_fields, field_has, is_field, is_within_field, places_field, rest
from pauseplay.machine.machines import Machine, limits, placed, without_deed
from pauseplay.machine.reach import coming, fewest_moves
from tests.drawn import busy_deed, busy_machine, drawn_field, is_in_some, keeps_all, looked_at, point_showing
from tests.drawn import seeded, shown_by
from tests.kinds import Calls
from tests.plain import games_won, grown, is_open_at, led_to, let_moments, looked_standings, plain_key
from tests.test_reach import wheels

RACE = Machine(
    1, (((1, 0, (3, 1)),), (), ()),
    (("own", 0, 1, ((0, 1, (-2, 1)),), ()), ("foe", 0, 2, ((0, 1, (-2, 0)),), ()), ("foe", 0, 0, ((1, 0, (1, 0)),), (1,))),
)


def at(value, bottom=1, place=0):
    """A standing of one clock."""
    return (place, (bottom, (value,)))


def round_of(fields, place, point):
    """The number of the first field that has the point at the place."""
    return next((number for number, field in enumerate(fields) if is_in_some(field[place], point)), None)


class LedTest(unittest.TestCase):
    def test_point_by_point(self):
        random = seeded("led")
        kinds = {}
        for turn in range(120):
            machine = busy_machine(random, turn % 5, 3)
            field = drawn_field(random, machine)
            fields = {"own": led_into(machine, field), "foe": led_out(machine, field)}
            for owner, found in fields.items():
                self.assertIs(is_field(machine, found), True)
                for place, area in enumerate(found):
                    lots = random.sample(area, min(2, len(area))) + list(field[place][:1])
                    for point in looked_at(random, machine.clocks, lots, 4):
                        if keeps_all(point, machine.places[place]):
                            expected = self.is_led(machine, owner, field, place, point)
                            kinds[owner, expected] = kinds.get((owner, expected), 0) + 1
                            self.assertIs(is_in_some(area, point), expected, (machine.places, machine.deeds, field, place, point))
        self.assertGreater(min(kinds.values()), 200)

    def is_led(self, machine, owner, field, place, point):
        """Whether an own deed leads into the field, or a deed of the foe leads out of it."""
        shown = tuple(shown_by(point))
        for deed, told in enumerate(machine.deeds):
            if told[0] == owner and is_open_at(machine, deed, place, shown):
                goal, numbers = led_to(machine, deed, shown)
                if is_in_some(field[goal], point_showing(numbers[1:])) == (owner == "own"):
                    return True
        return False

    def test_none_of_the_lots_is_within_another_one(self):
        random = seeded("led lots")
        for turn in range(60):
            machine = busy_machine(random, turn % 5, 3)
            field = drawn_field(random, machine)
            for found in (led_into(machine, field), led_out(machine, field)):
                for area in found:
                    self.assertIs(is_area(machine.clocks, area), True)
                    for one, other in permutations(area, 2):
                        self.assertIs(is_lot_within(one, other), False)

    def test_whether_it_is_in_the_field_makes_no_difference(self):
        # [12.1]
        loop = Machine(1, ((), ()), (("own", 0, 0, (), (1,)), ("foe", 1, 1, (), (1,)), ("foe", 0, 1, ((0, 1, (-3, 1)),), ())))
        nought = lot_or_ring(1, ((1, 0, (0, 1)),))[1]
        every = places_field(loop, (0, 1))
        self.assertEqual(led_into(loop, ((nought,), ())), ((limits(loop, 0),), ()))
        self.assertEqual(led_into(loop, ((), (nought,))), ((), ()))
        self.assertEqual(led_out(loop, ((), (nought,))), ((lot_or_ring(1, ((0, 1, (-3, 1)),))[1],), ()))
        self.assertEqual(led_out(loop, ((), ())), ((lot_or_ring(1, ((0, 1, (-3, 1)),))[1],), (limits(loop, 1),)))
        self.assertEqual(led_out(loop, every), ((), ()))
        self.assertEqual(led_into(loop, every), ((limits(loop, 0),), ()))

    def test_goal_places_are_led_out_like_others(self):
        found = led_out(RACE, places_field(RACE, (0,)))
        self.assertIs(are_equal(found[0], (lot_or_ring(1, ((0, 1, (-2, 0)), (1, 0, (3, 1))))[1],)), True)
        self.assertEqual(found[1:], ((), ()))

    def test_own_deeds_are_led_into_as_ahead_of_them(self):
        random = seeded("ahead")
        for turn in range(60):
            machine = busy_machine(random, turn % 5, 3)
            field = drawn_field(random, machine)
            found = led_into(machine, field)
            for place in range(len(machine.places)):
                ahead = [
                    lot for deed, told in enumerate(machine.deeds) if told[:2] == ("own", place)
                    for lot in ahead_of_deed(machine, deed, field[told[2]])
                ]
                self.assertIs(are_equal(found[place], tuple(ahead)), True)


class RoundsTest(unittest.TestCase):
    def test_just_the_standings_of_each_round(self):
        lasts = {}
        for machine, goals, plain, ranks, last in games_won():
            fields = rounds(machine, goals)
            lasts[last] = lasts.get(last, 0) + 1
            self.assertEqual(len(fields), last + 1, (machine.places, machine.deeds, goals))
            for field in fields:
                self.assertIs(is_field(machine, field), True)
            for key in plain.standings:
                place, point = plain.standing(key)
                self.assertEqual(round_of(fields, place, point), ranks.get(key), (machine.places, machine.deeds, goals, key))
        for last in (0, 1, 2, 3):
            self.assertGreater(lasts[last], 5, last)

    def test_each_round_has_the_one_ahead_of_it_and_more(self):
        for machine, goals, _, _, _ in games_won()[:60]:
            fields = rounds(machine, goals)
            self.assertIs(are_equal_fields(machine, fields[0], places_field(machine, goals)), True)
            self.assertIs(are_equal_fields(machine, fields[-1], won_field(machine, goals)), True)
            for one, other in zip(fields, fields[1:]):
                self.assertIs(is_within_field(machine, one, other), True)
                self.assertIs(is_within_field(machine, other, one), False)

    def test_each_round_is_the_way_of_the_one_ahead_of_it(self):
        # [12.2]
        for machine, goals, _, _, _ in games_won()[:60]:
            fields = rounds(machine, goals)
            for one, other in zip(fields, fields[1:] + fields[-1:]):
                goods, bads = led_into(machine, one), led_out(machine, one)
                told = tuple(
                    (limits(machine, place),) if place in goals else way(machine, place, goods[place], bads[place])
                    for place in range(len(machine.places))
                )
                self.assertIs(are_equal_fields(machine, told, other), True)

    def test_none_of_the_lots_is_within_another_one(self):
        for machine, goals, _, _, _ in games_won()[:60]:
            for field in rounds(machine, goals) + (won_field(machine, goals),):
                for area in field:
                    for one, other in permutations(area, 2):
                        self.assertIs(is_lot_within(one, other), False)

    def test_at_most_as_many_rounds_as_classes_at_all_places(self):
        # [12.3]
        for machine, goals, _, _, _ in games_won()[:60]:
            self.assertLessEqual(len(rounds(machine, goals)), len(machine.places) * how_many(machine.clocks, machine.most))

    def test_no_goals_and_all(self):
        for machine, _, _, _, _ in games_won()[:24]:
            every = tuple(range(len(machine.places)))
            self.assertEqual(rounds(machine, ()), (((),) * len(every),))
            self.assertEqual(won_field(machine, ()), ((),) * len(every))
            self.assertEqual(rounds(machine, every), (places_field(machine, every),))

    def test_no_own_deeds(self):
        for machine, goals, _, _, _ in games_won()[:40]:
            foes = Machine(machine.clocks, machine.places, tuple(told for told in machine.deeds if told[0] == "foe"))
            self.assertEqual(len(rounds(foes, goals)), 1)

    def test_no_deeds_of_the_foe_are_moves(self):
        random = seeded("no foe")
        for machine, goals, plain, _, _ in games_won()[:40]:
            own = Machine(machine.clocks, machine.places, tuple(told for told in machine.deeds if told[0] == "own"))
            self.assertIs(are_equal_fields(own, won_field(own, goals), coming(own, goals)), True)
            for standing in looked_standings(random, machine, plain, 3):
                self.assertEqual(rank(own, goals, standing), fewest_moves(own, standing, goals))

    def test_many_rounds(self):
        machine = wheels(5, 4, 3)
        own = Machine(3, machine.places, tuple(("own", *told[1:]) for told in machine.deeds))
        fields = rounds(own, (1,))
        self.assertEqual(rank(own, (1,), (0, (1, (0, 0, 0)))), 45)
        self.assertEqual(len(fields), 48)
        self.assertEqual(won_or_held(own, (1,), (0, (1, (1, 1, 1)))), ("won", round_of(fields, 0, (1, (1, 1, 1)))))
        self.assertEqual(won_or_held(own, (1,), (0, (2, (1, 1, 0)))), ("held", 47))


class RanksTest(unittest.TestCase):
    def test_ranks(self):
        random = seeded("ranks")
        told = {}
        for machine, goals, plain, ranks, last in games_won():
            for standing in looked_standings(random, machine, plain):
                expected = ranks.get(plain_key(machine, standing))
                told[expected] = told.get(expected, 0) + 1
                self.assertEqual(rank(machine, goals, standing), expected)
                self.assertEqual(
                    won_or_held(machine, goals, standing), ("held", last) if expected is None else ("won", expected)
                )
                self.assertIs(field_has(machine, won_field(machine, goals), standing), expected is not None)
        for number in (None, 0, 1, 2, 3):
            self.assertGreater(told[number], 20, number)

    def winning_offer(self, machine, goals, standing, fields, number):
        """A right pause for what leads into the round ahead of this one and out of it, and an own deed that leads there."""
        place, point = standing
        goods, bads = led_into(machine, fields[number - 1])[place], led_out(machine, fields[number - 1])[place]
        pause = pause_for(machine, standing, goods, bads)
        self.assertIs(is_pause_for(machine, standing, goods, bads, pause), True)
        for deed, told in enumerate(machine.deeds):
            if told[0] == "own" and is_offer(machine, standing, (pause, deed)):
                if field_has(machine, fields[number - 1], behind(machine, standing, (pause, deed), ("let",))):
                    return (pause, deed)
        return None

    def drawn_answer(self, random, machine, standing, offer):
        """Any answer, at an end of its stretch, between both, or to let the offer."""
        found = [("let",)]
        for deed, (least, least_end, greatest, greatest_end) in answers_to(machine, standing, offer):
            middle = (least[0] * greatest[1] + greatest[0] * least[1], 2 * least[1] * greatest[1])
            ends = [least] * least_end + [greatest] * greatest_end + [middle]
            found.extend([("deed", pause, deed) for pause in ends])
        return random.choice(found)

    def test_whoever_offers_right_pauses_comes_to_a_goal(self):
        # [12.4], [12.5]: behind at most as many offers as the rank tells, whatever is answered.
        random = seeded("played out")
        found = 0
        for machine, goals, plain, ranks, _ in games_won():
            fields = rounds(machine, goals)
            for key in random.sample(sorted(ranks), min(4, len(ranks))):
                standing, turns = plain.standing(key), []
                begin, number = standing, ranks[key]
                found += number > 1
                while number > 0:
                    offer = self.winning_offer(machine, goals, standing, fields, number)
                    answer = self.drawn_answer(random, machine, standing, offer)
                    turns.append((offer, answer))
                    standing = behind(machine, standing, offer, answer)
                    further = rank(machine, goals, standing)
                    self.assertLess(further, number)
                    number = further
                self.assertLessEqual(len(turns), ranks[key])
                self.assertEqual(played(machine, begin, goals, tuple(turns))[1], "won")
        self.assertGreater(found, 30)

    def test_each_other_offer_has_an_answer(self):
        # [12.4]: at rank k each offer has an answer to rank k - 1 at least, or to no rank.
        random = seeded("answered")
        found = {True: 0, False: 0}
        for machine, goals, plain, ranks, _ in games_won():
            for key in random.sample(sorted(plain.standings), min(6, len(plain.standings))):
                number = ranks.get(key)
                if number == 0:
                    continue
                place, shown = key[0], plain.standings[key]
                for pause in let_moments(machine, place, shown):
                    for deed, told in enumerate(machine.deeds):
                        if told[0] == "own" and is_open_at(machine, deed, place, grown(shown, pause)):
                            found[number is None] += 1
                            worst = self.worst(machine, plain, ranks, place, shown, pause, deed)
                            self.assertTrue(worst is None or (number is not None and worst >= number - 1))
        self.assertGreater(min(found.values()), 100)

    def worst(self, machine, plain, ranks, place, shown, pause, deed):
        """The greatest rank to which an answer to the offer leads, None if one leads to none."""
        led = [plain.key(*led_to(machine, deed, grown(shown, pause)))]
        for earlier in [moment for moment in let_moments(machine, place, shown) if moment <= pause] + [pause]:
            led.extend(plain.led_by("foe", place, grown(shown, earlier)))
        return None if any(key not in ranks for key in led) else max(ranks[key] for key in led)

    def test_ends(self):
        self.assertEqual(
            [rank(RACE, (1,), at(value, 100)) for value in (0, 99, 100, 199, 200, 201, 300)], [None, None, 1, 1, 1, None, None]
        )
        self.assertEqual([rank(RACE, (2,), at(0, 1, place)) for place in (0, 1, 2)], [None, None, 0])
        self.assertEqual(won_or_held(RACE, (0,), at(3)), ("won", 0))
        self.assertEqual(won_or_held(RACE, (), at(3)), ("held", 0))
        self.assertEqual(won_or_held(RACE, (1, 2), at(0)), ("held", 1))
        free = Machine(0, ((), (), ()), (("own", 0, 1, (), ()), ("foe", 0, 0, (), ()), ("own", 2, 1, (), ())))
        self.assertEqual([rank(free, (1,), (place, (3, ()))) for place in (0, 1, 2)], [None, 0, 1])

    def test_a_foe_deed_at_the_moment_of_the_own_one_does_harm(self):
        # [12.7]
        rules = ((0, 1, (-2, 1)), (1, 0, (2, 1)))
        machine = Machine(1, ((), (), ()), (("own", 0, 1, rules, ()), ("foe", 0, 2, rules, ())))
        self.assertEqual(won_or_held(machine, (1,), at(0)), ("held", 0))
        without = without_deed(machine, 1)
        self.assertEqual(won_or_held(without, (1,), at(0)), ("won", 1))

    def test_a_held_standing_from_which_a_run_comes_to_a_goal(self):
        # [12.7]
        self.assertEqual(fewest_moves(RACE, at(0), (1,)), 1)
        self.assertIsNone(rank(RACE, (1,), at(0)))
        # And one from which no run goes on for ever.
        still = Machine(0, ((), ()), ())
        self.assertEqual(won_or_held(still, (1,), (0, (1, ()))), ("held", 0))
        self.assertEqual(offers_at(still, (0, (1, ()))), ())

    def test_tighter_limits_can_make_a_standing_won(self):
        # [12.7]: the foe's deed is not open any more where its goal's limits break.
        deeds = (("own", 0, 1, ((0, 1, (-2, 1)),), ()), ("foe", 0, 2, ((0, 1, (-1, 1)),), ()))
        self.assertIsNone(rank(Machine(1, ((), (), ()), deeds), (1,), at(0)))
        self.assertEqual(rank(Machine(1, ((), (), ((1, 0, (1, 0)),)), deeds), (1,), at(0)), 1)

    def test_without_foe_deeds_there_can_be_more_rounds_than_places(self):
        # [12.7]
        own = Machine(2, wheels(5, 4).places, tuple(("own", *told[1:]) for told in wheels(5, 4).deeds))
        self.assertGreater(len(rounds(own, (1,))), 2)

    def test_long_numbers(self):
        long = 10 ** 59
        self.assertEqual(rank(RACE, (1,), at(2 * long + 1, long)), None)
        self.assertEqual(rank(RACE, (1,), at(2 * long - 1, long)), 1)
        self.assertEqual(rank(RACE, (1,), at(long - 1, long)), None)


class MoreAndLessTest(Calls, unittest.TestCase):
    """[12.6]"""

    def assert_more(self, fields, machine, others):
        """Each round has all standings of the one with the same number, or of the last one."""
        for number in range(max(len(fields), len(others))):
            one, other = fields[min(number, len(fields) - 1)], others[min(number, len(others) - 1)]
            self.assertIs(is_within_field(machine, one, other), True)

    def test_further_goals_and_own_deeds_fewer_deeds_of_the_foe(self):
        random = seeded("more and less")
        for machine, goals, _, _, _ in games_won()[:60]:
            fields = rounds(machine, goals)
            further = tuple(sorted(set(goals) | {random.randrange(len(machine.places))}))
            self.assert_more(fields, machine, rounds(machine, further))
            deed = busy_deed(random, machine.clocks, len(machine.places), 3, 1.0, False)
            index = random.randint(0, len(machine.deeds))
            more = Machine(machine.clocks, machine.places, machine.deeds[:index] + (deed,) + machine.deeds[index:])
            self.assert_more(fields, machine, rounds(more, goals))
            foes = [index for index, told in enumerate(machine.deeds) if told[0] == "foe"]
            if foes:
                self.assert_more(fields, machine, rounds(without_deed(machine, random.choice(foes)), goals))
            own = [index for index, told in enumerate(machine.deeds) if told[0] == "own"]
            if own:
                self.assert_more(rounds(without_deed(machine, random.choice(own)), goals), machine, fields)

    def test_greater_numbers(self):
        random = seeded("greater")
        for machine, goals, plain, ranks, last in games_won()[:60]:
            times = random.randint(2, 20 // max(1, machine.most))
            places = tuple(self.scaled(place, times) for place in machine.places)
            deeds = tuple((*told[:3], self.scaled(told[3], times), told[4]) for told in machine.deeds)
            other = Machine(machine.clocks, places, deeds)
            self.assertEqual(len(rounds(other, goals)), last + 1)
            for place, (bottom, values) in looked_standings(random, machine, plain, 4):
                number = ranks.get(plain_key(machine, (place, (bottom, values))))
                self.assertEqual(rank(other, goals, (place, (bottom, tuple(value * times for value in values)))), number)

    def scaled(self, rules, times):
        return tuple((one, other, (k * times, end)) for one, other, (k, end) in rules)

    def test_renumbered_places(self):
        random = seeded("renumbered")
        for machine, goals, plain, ranks, last in games_won()[:60]:
            order = random.sample(range(len(machine.places)), len(machine.places))
            told = {index: place for place, index in enumerate(order)}
            other, its_goals = placed(machine, tuple(order)), tuple(sorted(told[goal] for goal in goals))
            fields = rounds(other, its_goals)
            self.assertEqual(len(fields), last + 1)
            for one, field in zip(rounds(machine, goals), fields):
                self.assertIs(are_equal_fields(other, tuple(one[index] for index in order), field), True)
            for place, point in looked_standings(random, machine, plain, 4):
                self.assertEqual(rank(other, its_goals, (told[place], point)), ranks.get(plain_key(machine, (place, point))))

    def test_the_rest_of_what_is_won_is_held_for_ever(self):
        # [12.4]: from there no right pause leads to what leads into the won field.
        for machine, goals, _, _, _ in games_won()[:40]:
            won = won_field(machine, goals)
            goods, bads = led_into(machine, won), led_out(machine, won)
            for place, area in enumerate(rest(machine, won)):
                if place not in goals:
                    self.assertEqual(common(way(machine, place, goods[place], bads[place]), area), ())


if __name__ == "__main__":
    unittest.main()
