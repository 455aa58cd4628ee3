"""[8.1] to [8.5]: fields, what is behind and ahead by waiting and by deeds, the rest and joined fields."""

import unittest
from fractions import Fraction
from itertools import permutations, product

from pauseplay.lots.areas import are_equal, common, is_area, less, thinned
from pauseplay.lots.lots import everything, is_lot_within, lot_or_ring, point_of, rules_of
from pauseplay.lots.moves import back_from, meet
from pauseplay.machine.fields import ahead_of_deed, ahead_of_wait, are_equal_fields, behind_deed, behind_wait, field_has
from pauseplay.machine.fields import is_field, is_within_field, joined, places_field, rest
from pauseplay.machine.machines import Machine, limits, open_lot
from pauseplay.machine.runs import is_standing
from tests.drawn import all_points, busy_machine, crossings, drawn_area, drawn_field, drawn_lot, drawn_standing, is_in_some
from tests.drawn import keeps_all, looked_at, point_showing, seeded, shown_by, within
from tests.kinds import ALL_OF_TWO, LAMP, NOUGHT_OF_TWO
from tests.plain import is_open_at, led_to

BOX = Machine(
    2, (((1, 0, (3, 1)),), ()),
    (("own", 0, 1, ((0, 1, (-1, 0)), (2, 0, (2, 1))), (2,)), ("foe", 1, 0, ((0, 2, (-2, 1)), (2, 0, (1, 1))), ()), ("foe", 0, 0, (), (1,))),
)


def numbers_in(area):
    """All numbers of the bounds of the lots, with and without a minus."""
    found = {bound[0] for lot in area for row in lot for bound in row if bound is not None}
    return sorted({sign * number for number in found for sign in (1, -1)})


def is_behind_wait(machine, place, area, point):
    """A look at each pause that can have led to the point."""
    shown = shown_by(point)[1:]
    if not keeps_all(point, machine.places[place]):
        return False
    longest = min(shown, default=Fraction(1))
    ends = crossings([number - k for number in shown for k in numbers_in(area)])
    return any(is_in_some(area, point_showing([number - pause for number in shown])) for pause in ends if pause <= longest)


def is_ahead_of_wait(machine, place, area, point):
    """A look at each pause behind the point."""
    shown = shown_by(point)[1:]
    limit = [rule[2][0] for rule in machine.places[place]]
    for pause in crossings([k - number for number in shown for k in numbers_in(area) + limit]):
        then = point_showing([number + pause for number in shown])
        if keeps_all(then, machine.places[place]) and is_in_some(area, then):
            return True
    return False


def drawn_ones(name, many, most=3):
    """Drawn machines, each with a place and an area, whose lots are partly beyond the limits."""
    random = seeded(name)
    for turn in range(many):
        machine = busy_machine(random, turn % 5, most)
        yield random, machine, random.randrange(len(machine.places)), drawn_area(random, machine.clocks)


class Areas(unittest.TestCase):
    def assert_thin(self, clocks, area):
        """This is an area, and none of its lots is within another one of them."""
        self.assertIs(is_area(clocks, area), True)
        for one, other in permutations(area, 2):
            self.assertIs(is_lot_within(one, other), False)


class IsFieldTest(unittest.TestCase):
    def test_areas_within_the_limits(self):
        random = seeded("is field")
        kinds = {True: 0, False: 0}
        for turn in range(150):
            machine = busy_machine(random, turn % 5, 3)
            value = tuple(drawn_area(random, machine.clocks, 1) for _ in machine.places)
            expected = all(
                is_lot_within(lot, limits(machine, place)) for place, area in enumerate(value) for lot in area
            )
            kinds[expected] += 1
            self.assertIs(is_field(machine, value), expected)
            self.assertIs(is_field(machine, drawn_field(random, machine)), True)
        self.assertGreater(min(kinds.values()), 20)

    def test_ends_of_limits(self):
        machine = Machine(1, (((1, 0, (2, 0)),), ((1, 0, (2, 1)),)), ())
        strict, plain = ((((0, 1), (0, 1)), ((2, end), (0, 1))) for end in (0, 1))
        self.assertIs(is_field(machine, ((strict,), (plain,))), True)
        self.assertIs(is_field(machine, ((strict, strict), (plain, strict))), True)
        self.assertIs(is_field(machine, ((plain,), ())), False)
        self.assertIs(is_field(machine, ((), (everything(1),))), False)

    def test_how_many_places_and_lots(self):
        machine = Machine(0, ((),) * 12, ())
        self.assertIs(is_field(machine, ((),) * 12), True)
        self.assertIs(is_field(machine, ((),) * 11), False)
        self.assertIs(is_field(machine, ((),) * 13), False)
        self.assertIs(is_field(machine, ((everything(0),) * 5000,) + ((),) * 11), True)
        self.assertIs(is_field(machine, ((everything(0),) * 5001,) + ((),) * 11), False)

    def test_lots_of_other_clocks(self):
        for clocks in range(5):
            machine = Machine(2, ((),), ())
            self.assertIs(is_field(machine, ((everything(clocks),),)), clocks == 2)


class FieldHasTest(unittest.TestCase):
    def test_standings_of_drawn_fields(self):
        random = seeded("field has")
        kinds = {True: 0, False: 0}
        for turn in range(150):
            machine = busy_machine(random, turn % 5, 3)
            field, at = drawn_field(random, machine), drawn_standing(random, machine)
            expected = is_in_some(field[at[0]], at[1])
            kinds[expected] += 1
            self.assertIs(field_has(machine, field, at), expected)
        self.assertGreater(min(kinds.values()), 20)

    def test_ends(self):
        self.assertIs(field_has(LAMP, ((), (NOUGHT_OF_TWO,), ()), (1, (7, (0, 0)))), True)
        self.assertIs(field_has(LAMP, ((), (NOUGHT_OF_TWO,), ()), (0, (7, (0, 0)))), False)
        self.assertIs(field_has(LAMP, ((), (NOUGHT_OF_TWO,), ()), (1, (10 ** 50, (0, 1)))), False)


class WaitingTest(Areas):
    def test_behind(self):
        for random, machine, place, area in drawn_ones("behind wait", 80):
            found = behind_wait(machine, place, area)
            self.assert_thin(machine.clocks, found)
            # The area is asked for within the limits; earlier points of those are within them, too.
            for point in looked_at(random, machine.clocks, area + found, 6):
                self.assertIs(is_in_some(found, point), is_behind_wait(machine, place, area, point), (machine.places, area, point))

    def test_ahead(self):
        for random, machine, place, area in drawn_ones("ahead of wait", 80):
            found = ahead_of_wait(machine, place, area)
            self.assert_thin(machine.clocks, found)
            for point in looked_at(random, machine.clocks, area + found, 6):
                self.assertIs(is_in_some(found, point), is_ahead_of_wait(machine, place, area, point), (machine.places, area, point))

    def test_some_point_of_the_one_is_behind_the_other(self):
        # [8.2]
        kinds = {True: 0, False: 0}
        for random, machine, place, area in drawn_ones("waits", 150):
            one, other = area[:1], (drawn_lot(random, machine.clocks),)
            there = common(behind_wait(machine, place, one), other) != ()
            kinds[there] += 1
            self.assertIs(common(one, ahead_of_wait(machine, place, other)) != (), there)
        self.assertGreater(min(kinds.values()), 20)

    def test_what_lies_beyond_the_limits_is_left_out(self):
        beyond = lot_or_ring(2, ((0, 1, (-3, 0)),))[1]
        self.assertEqual(behind_wait(BOX, 0, (beyond,)), ())
        self.assertEqual(ahead_of_wait(BOX, 0, (beyond,)), ())
        at_end = lot_or_ring(2, ((0, 1, (-3, 1)),))[1]
        self.assertEqual(behind_wait(BOX, 0, (at_end,)), (within(at_end, ((1, 0, (3, 1)),)),))
        self.assertIs(are_equal(ahead_of_wait(BOX, 0, (at_end,)), (limits(BOX, 0),)), True)

    def test_no_lots_no_clocks_and_all(self):
        self.assertEqual((behind_wait(BOX, 0, ()), ahead_of_wait(BOX, 1, ())), ((), ()))
        free = Machine(0, ((),), ())
        self.assertEqual(behind_wait(free, 0, (everything(0),)), (everything(0),))
        self.assertEqual(ahead_of_wait(free, 0, (everything(0),) * 3), (everything(0),))
        for place in (0, 1):
            self.assertEqual(behind_wait(BOX, place, (everything(2),)), (limits(BOX, place),))
            self.assertEqual(ahead_of_wait(BOX, place, (everything(2),)), (limits(BOX, place),))

    def test_ahead_is_not_behind(self):
        # [8.5]
        two = lot_or_ring(2, ((1, 0, (2, 1)), (0, 1, (-2, 1))))[1]
        self.assertIs(are_equal(ahead_of_wait(BOX, 0, (two,)), behind_wait(BOX, 0, (two,))), False)
        # What waits into the rest of an area can wait into the area as well.
        left = less((limits(BOX, 0),), (two,))
        self.assertNotEqual(common(ahead_of_wait(BOX, 0, left), ahead_of_wait(BOX, 0, (two,))), ())


class DeedsTest(Areas):
    def test_ahead(self):
        for random, machine, _, area in drawn_ones("ahead of deed", 80):
            for deed, (_, start, _, _, back) in enumerate(machine.deeds[:4]):
                found = ahead_of_deed(machine, deed, area)
                self.assert_thin(machine.clocks, found)
                for point in looked_at(random, machine.clocks, found + area[:1], 6):
                    shown = tuple(shown_by(point))
                    _, numbers = led_to(machine, deed, shown)
                    expected = is_open_at(machine, deed, start, shown) and is_in_some(area, point_showing(numbers[1:]))
                    self.assertIs(is_in_some(found, point), expected, (machine.places, machine.deeds[deed], area, point))

    def test_points_behind_come_from_points_of_the_area(self):
        for random, machine, _, area in drawn_ones("from", 80):
            for deed, (_, start, goal, _, back) in enumerate(machine.deeds[:4]):
                found = behind_deed(machine, deed, area)
                self.assert_thin(machine.clocks, found)
                opened = open_lot(machine, deed)
                lots = [] if opened is None else [lot for lot in (meet(lot, opened) for lot in area) if lot is not None]
                for point in looked_at(random, machine.clocks, found, 0):
                    ahead = [each for each in (back_from(lot, back, point) for lot in lots) if each is not None]
                    self.assertIs(is_in_some(found, point), ahead != [])
                    for each in ahead:
                        shown = tuple(shown_by(each))
                        self.assertTrue(is_in_some(area, each) and is_open_at(machine, deed, start, shown))
                        self.assertEqual(led_to(machine, deed, shown), (goal, tuple(shown_by(point))))
                        self.assertIs(is_standing(machine, (goal, point)), True)

    def test_points_of_the_area_lead_behind(self):
        found = 0
        for random, machine, _, area in drawn_ones("to", 150):
            for deed, (_, start, _, _, _) in enumerate(machine.deeds[:4]):
                behind = behind_deed(machine, deed, area)
                for point in looked_at(random, machine.clocks, area, 4):
                    shown = tuple(shown_by(point))
                    if is_in_some(area, point) and is_open_at(machine, deed, start, shown):
                        found += 1
                        self.assertTrue(is_in_some(behind, point_showing(led_to(machine, deed, shown)[1][1:])))
        self.assertGreater(found, 100)

    def test_each_point_of_a_small_machine(self):
        # Points ahead with steps of a sixth are enough for points behind with halves.
        area = (lot_or_ring(2, ((1, 2, (1, 0)), (0, 1, (-2, 0)), (2, 0, (3, 0))))[1], lot_or_ring(2, ((2, 1, (-2, 0)),))[1])
        for deed, (_, start, _, _, back) in enumerate(BOX.deeds):
            found = behind_deed(BOX, deed, area)
            shown = [tuple(shown_by(point)) for point in all_points(2, 5, 6)]
            ahead = [each for each in shown if is_in_some(area, point_showing(each[1:])) and is_open_at(BOX, deed, start, each)]
            told = {led_to(BOX, deed, each)[1] for each in ahead}
            for point in all_points(2, 4, 2):
                self.assertIs(is_in_some(found, point), tuple(shown_by(point)) in told, (deed, point))

    def test_some_point_of_the_one_is_behind_the_other(self):
        # [8.3]
        kinds = {True: 0, False: 0}
        for random, machine, _, area in drawn_ones("leads", 150):
            one, other = area[:2], drawn_area(random, machine.clocks, 2)
            for deed in range(min(4, len(machine.deeds))):
                there = common(behind_deed(machine, deed, one), other) != ()
                kinds[there] += 1
                self.assertIs(common(one, ahead_of_deed(machine, deed, other)) != (), there)
        self.assertGreater(min(kinds.values()), 20)

    def test_ahead_of_several_and_of_what_is_shared(self):
        # [8.3]
        for random, machine, _, one in drawn_ones("several", 60):
            other = drawn_area(random, machine.clocks)
            for deed in range(min(4, len(machine.deeds))):
                first, last = ahead_of_deed(machine, deed, one), ahead_of_deed(machine, deed, other)
                self.assertIs(are_equal(ahead_of_deed(machine, deed, one + other), first + last), True)
                self.assertIs(are_equal(ahead_of_deed(machine, deed, common(one, other)), common(first, last)), True)
                self.assertIs(
                    are_equal(behind_deed(machine, deed, one + other), behind_deed(machine, deed, one) + behind_deed(machine, deed, other)),
                    True,
                )

    def test_behind_what_is_shared_is_less(self):
        # [8.3], [8.5]: two points are led to one.
        one, other = lot_or_ring(2, ((1, 0, (1, 1)),))[1], lot_or_ring(2, ((0, 1, (-2, 1)),))[1]
        self.assertEqual(common((one,), (other,)), ())
        self.assertNotEqual(common(behind_deed(BOX, 2, (one,)), behind_deed(BOX, 2, (other,))), ())

    def test_deeds_that_are_never_open(self):
        for area in ((), (everything(2),), (NOUGHT_OF_TWO,)):
            self.assertEqual(behind_deed(BOX, 1, area), ())
            self.assertEqual(ahead_of_deed(BOX, 1, area), ())

    def test_ends_and_areas_beyond_the_limits(self):
        self.assertEqual(ahead_of_deed(BOX, 0, (everything(2),)), (open_lot(BOX, 0),))
        # What of the area lies beyond the limits of the goal is led to by nothing.
        beyond = lot_or_ring(2, ((0, 1, (-3, 0)),))[1]
        self.assertEqual(ahead_of_deed(BOX, 2, (beyond,)), ())
        self.assertEqual(behind_deed(BOX, 2, (beyond,)), ())
        self.assertEqual(behind_deed(BOX, 0, (beyond,)), ())
        self.assertEqual(ahead_of_deed(BOX, 0, (beyond,)), ())
        at_end = lot_or_ring(2, ((0, 1, (-3, 1)), (1, 0, (3, 1))))[1]
        self.assertEqual(behind_deed(BOX, 0, (at_end,)), (within(at_end, ((2, 0, (0, 1)),)),))
        free = Machine(0, ((), ()), (("own", 0, 1, (), ()),))
        self.assertEqual(behind_deed(free, 0, (everything(0),)), (everything(0),))
        self.assertEqual(ahead_of_deed(free, 0, ()), ())


class RestTest(Areas):
    def fields(self, name, many):
        random = seeded(name)
        for turn in range(many):
            machine = busy_machine(random, turn % 5, 3)
            yield random, machine, drawn_field(random, machine), drawn_field(random, machine)

    def points(self, random, machine, place, lots, many=4):
        """Points within the limits of the place, near lots."""
        drawn = looked_at(random, machine.clocks, random.sample(lots, min(3, len(lots))), many)
        return [point for point in drawn if keeps_all(point, machine.places[place])]

    def test_just_what_the_field_lacks(self):
        for random, machine, field, _ in self.fields("rest", 100):
            left = rest(machine, field)
            self.assertIs(is_field(machine, left), True)
            for place, area in enumerate(left):
                self.assert_thin(machine.clocks, area)
                for point in self.points(random, machine, place, area + field[place]):
                    self.assertIs(is_in_some(area, point), not is_in_some(field[place], point))

    def test_just_what_both_have(self):
        for random, machine, one, other in self.fields("joined", 100):
            both = joined(machine, one, other)
            self.assertIs(is_field(machine, both), True)
            for place, area in enumerate(both):
                self.assert_thin(machine.clocks, area)
                for point in self.points(random, machine, place, area + one[place] + other[place]):
                    self.assertIs(is_in_some(area, point), is_in_some(one[place], point) or is_in_some(other[place], point))

    def test_the_rest_of_the_rest_and_of_joined_fields(self):
        # [8.4]
        for _, machine, one, other in self.fields("rests", 60):
            self.assertIs(are_equal_fields(machine, rest(machine, rest(machine, one)), one), True)
            both = rest(machine, joined(machine, one, other))
            for area, first, last in zip(both, rest(machine, one), rest(machine, other)):
                self.assertIs(are_equal(area, common(first, last)), True)

    def test_fields_are_told_by_their_standings(self):
        kinds = {True: 0, False: 0}
        for _, machine, one, other in self.fields("told", 100):
            told = tuple(thinned(first + first[::-1]) for first in one)
            cut = tuple(less(first, last) + common(first, last) for first, last in zip(one, other))
            self.assertIs(are_equal_fields(machine, one, told), True)
            self.assertIs(are_equal_fields(machine, cut, one), True)
            smaller = tuple(less(first, last) for first, last in zip(one, other))
            same = all(common(first, last) == () for first, last in zip(one, other))
            kinds[same] += 1
            self.assertIs(are_equal_fields(machine, smaller, one), same)
            self.assertIs(are_equal_fields(machine, one, smaller), same)
            self.assertIs(is_within_field(machine, smaller, one), True)
            self.assertIs(is_within_field(machine, one, smaller), same)
            self.assertIs(is_within_field(machine, one, joined(machine, one, other)), True)
            within_other = all(less(first, last) == () for first, last in zip(one, other))
            self.assertIs(is_within_field(machine, one, other), within_other)
        self.assertGreater(min(kinds.values()), 10)

    def test_ends(self):
        nothing, every = ((), (), ()), tuple((limits(LAMP, place),) for place in range(3))
        self.assertEqual(rest(LAMP, every), nothing)
        self.assertEqual(rest(LAMP, nothing), every)
        self.assertEqual(joined(LAMP, nothing, every), every)
        self.assertEqual(joined(LAMP, nothing, nothing), nothing)
        self.assertIs(is_within_field(LAMP, nothing, nothing), True)
        self.assertIs(is_within_field(LAMP, every, nothing), False)
        self.assertIs(are_equal_fields(LAMP, ((), (ALL_OF_TWO,), ()), ((), (NOUGHT_OF_TWO,), ())), False)
        machine = Machine(1, (((1, 0, (3, 1)),),), ())
        two = lot_or_ring(1, ((1, 0, (2, 1)), (0, 1, (-2, 1))))[1]
        self.assertEqual(sorted(rest(machine, ((two,),))[0]), sorted((
            (((0, 1), (0, 1)), ((2, 0), (0, 1))), (((0, 1), (-2, 0)), ((3, 1), (0, 1))),
        )))

    def test_the_rest_of_a_field_of_more_lots_can_have_no_point(self):
        # [8.5]
        machine = Machine(1, (((1, 0, (3, 1)),),), ())
        low, high = lot_or_ring(1, ((1, 0, (2, 1)),))[1], lot_or_ring(1, ((0, 1, (-2, 0)), (1, 0, (3, 1))))[1]
        self.assertEqual(rest(machine, ((low, high),)), ((),))
        self.assertIs(are_equal_fields(machine, ((low, high),), ((limits(machine, 0),),)), True)


class PlacesFieldTest(unittest.TestCase):
    def test_all_standings_at_these_places(self):
        random = seeded("places field")
        for turn in range(40):
            machine = busy_machine(random, turn % 5, 3)
            for chosen in product((False, True), repeat=len(machine.places)):
                places = tuple(place for place, let in enumerate(chosen) if let)
                told = tuple((limits(machine, place),) if let else () for place, let in enumerate(chosen))
                self.assertEqual(places_field(machine, places), told)
                self.assertIs(is_field(machine, told), True)

    def test_ends(self):
        machine = Machine(0, ((),) * 12, ())
        self.assertEqual(places_field(machine, ()), ((),) * 12)
        self.assertEqual(places_field(machine, tuple(range(12))), ((everything(0),),) * 12)
        self.assertEqual(rules_of(places_field(LAMP, (2,))[2][0]), ((0, 1, (0, 1)), (0, 2, (0, 1)), (2, 0, (2, 0)), (2, 1, (2, 0))))
        self.assertIs(keeps_all(point_of(places_field(LAMP, (0,))[0][0]), LAMP.places[0]), True)


if __name__ == "__main__":
    unittest.main()
