"""[10.1] to [10.6]: stretches, safe and right pauses, ways, and what is not true of them."""

import unittest
from fractions import Fraction
from itertools import count, permutations

from pauseplay.base.points import later
from pauseplay.game.ways import is_pause_for, pause_for, safe_pauses, way
from pauseplay.lots.areas import are_equal, area_has, common, is_area, less
from pauseplay.lots.lots import everything, is_lot_within, lot_or_ring
from pauseplay.lots.moves import earlier_lot
from pauseplay.machine.machines import Machine, limits
from pauseplay.machine.runs import longest
from tests.drawn import busy_limits, crossings, drawn_area, drawn_lot, drawn_standing, is_in_some, keeps_all, looked_at
from tests.drawn import point_showing, seeded, shown_by
from tests.kinds import GREATEST, Calls
from tests.test_fields import numbers_in

HALL = Machine(1, (((1, 0, (5, 1)),), ((1, 0, (5, 0)),), ()), ())


def span(least, least_end, most, most_end):
    """The lot of one clock between two whole numbers; None is no end."""
    above = () if most is None else ((1, 0, (most, most_end)),)
    return lot_or_ring(1, ((0, 1, (-least, least_end)),) + above)[1]


def at(value, bottom=1, place=0):
    """A standing of one clock."""
    return (place, (bottom, (value,)))


def ends_ahead(machine, standing, areas):
    """Pauses: one at each end of something, one between each two, one beyond all, one behind the other."""
    numbers = [number for area in areas for number in numbers_in(area)]
    numbers += [rule[2][0] for rule in machine.places[standing[0]]]
    return sorted(crossings([k - number for number in shown_by(standing[1])[1:] for k in numbers]))


def is_let_and_not_bad(machine, standing, bads, pause):
    """Whether the limits hold at this moment, and the point is not in the bads."""
    place, point = standing
    then = point_showing([number + pause for number in shown_by(point)[1:]])
    return keeps_all(then, machine.places[place]) and not is_in_some(bads, then)


def is_right_told(machine, standing, goods, bads, pause, ends):
    """Whether the pause is right, by a look at the ends up to it and at itself."""
    point = point_showing([number + pause for number in shown_by(standing[1])[1:]])
    passed = [end for end in ends if end < pause] + [pause]
    return is_in_some(goods, point) and all(is_let_and_not_bad(machine, standing, bads, moment) for moment in passed)


def safe_moments(machine, standing, goods, bads):
    """(pause, whether the point is in the goods then), one behind the other, for each safe moment looked at."""
    found = []
    for pause in ends_ahead(machine, standing, (goods, bads)):
        if not is_let_and_not_bad(machine, standing, bads, pause):
            break
        found.append((pause, is_in_some(goods, point_showing([number + pause for number in shown_by(standing[1])[1:]]))))
    return found


def has_right_pause(machine, standing, goods, bads):
    """Whether some safe pause leads into the goods."""
    return any(good for _, good in safe_moments(machine, standing, goods, bads))


def drawn_ones(name, many, lots=3):
    """Drawn machines of one place with goods and bads."""
    random = seeded(name)
    for turn in range(many):
        clocks = turn % 5
        machine = Machine(clocks, (busy_limits(random, clocks, 5),), ())
        goods, bads = drawn_area(random, clocks, lots), drawn_area(random, clocks, lots)
        yield random, machine, goods, bads


def standings_near(random, machine, lots, many=5):
    """Standings at the place 0: drawn ones, and ones near some of the lots."""
    chosen = random.sample(lots, min(3, len(lots)))
    points = [drawn_standing(random, machine)[1] for _ in range(many)] + looked_at(random, machine.clocks, chosen, 0)
    return [(0, point) for point in points if keeps_all(point, machine.places[0])]


class Ways(Calls, unittest.TestCase):
    def assert_way(self, random, machine, goods, bads):
        """The way is an area of lots none of which is within another one, with just the points that it should have."""
        found = way(machine, 0, goods, bads)
        self.assertIs(is_area(machine.clocks, found), True)
        for one, other in permutations(found, 2):
            self.assertIs(is_lot_within(one, other), False)
        for lot in found:
            self.assertIs(is_lot_within(lot, limits(machine, 0)), True)
        for standing in standings_near(random, machine, found + goods + bads):
            expected = has_right_pause(machine, standing, goods, bads)
            self.assertIs(is_in_some(found, standing[1]), expected, (machine.places, goods, bads, standing))
        return found


class WayTest(Ways):
    def test_just_the_points_with_a_right_pause(self):
        kinds = {True: 0, False: 0}
        for random, machine, goods, bads in drawn_ones("ways", 200):
            kinds[self.assert_way(random, machine, goods, bads) != ()] += 1
        self.assertGreater(min(kinds.values()), 40)

    def test_many_bads(self):
        for random, machine, goods, bads in drawn_ones("many bads", 40, 8):
            self.assert_way(random, machine, goods[:2], bads)

    def test_one_good_lot_and_one_bad_lot(self):
        # [10.3]
        found = 0
        for random, machine, _, _ in drawn_ones("one and one", 120):
            good, bad = drawn_lot(random, machine.clocks), drawn_lot(random, machine.clocks)
            if not is_lot_within(good, limits(machine, 0)):
                good = (common((good,), (limits(machine, 0),)) or (limits(machine, 0),))[0]
            past = less((earlier_lot(good),), (earlier_lot(bad),))
            ahead = tuple(earlier_lot(lot) for lot in less(common((good,), (earlier_lot(bad),)), (bad,)))
            found += ahead != ()
            self.assertIs(are_equal(way(machine, 0, (good,), (bad,)), past + ahead), True)
        self.assertGreater(found, 20)

    def test_several(self):
        # [10.4]
        for random, machine, goods, bads in drawn_ones("several", 80):
            found = way(machine, 0, goods, bads)
            each_good = tuple(lot for good in goods for lot in way(machine, 0, (good,), bads))
            self.assertIs(are_equal(found, each_good), True)
            shared = way(machine, 0, goods, ())
            let = common(goods, (limits(machine, 0),))
            self.assertIs(are_equal(shared, tuple(earlier_lot(lot) for lot in let)), True)
            for bad in bads:
                shared = common(shared, way(machine, 0, goods, (bad,)))
            self.assertIs(are_equal(found, shared), True)

    def test_more_goods_and_fewer_bads(self):
        # [10.5]
        for random, machine, goods, bads in drawn_ones("more", 60):
            found = way(machine, 0, goods, bads)
            self.assertEqual(less(found, way(machine, 0, goods + drawn_area(random, machine.clocks), bads)), ())
            self.assertEqual(less(found, way(machine, 0, goods, bads[1:])), ())
            let = less(common(goods, (limits(machine, 0),)), bads)
            self.assertEqual(less(let, found), ())
            self.assertIs(are_equal(way(machine, 0, let, bads), found), True)
            self.assertIs(are_equal(way(machine, 0, found, bads), found), True)

    def test_all_moments_up_to_a_right_pause_are_in_the_way(self):
        # [10.5]
        for random, machine, goods, bads in drawn_ones("moments", 60):
            found = way(machine, 0, goods, bads)
            for standing in standings_near(random, machine, found):
                pause = pause_for(machine, standing, goods, bads)
                self.assertIs(pause is not None, area_has(found, standing[1]))
                for part in () if pause is None else ((0, 1), (1, 3), (1, 2), (1, 1)):
                    then = later(standing[1], (pause[0] * part[0], pause[1] * part[1]))
                    self.assertIs(area_has(found, then), True)

    def test_goods_and_bads_that_touch(self):
        for good_end, bad_end in ((0, 0), (0, 1), (1, 0), (1, 1)):
            # The bads end where the goods begin; who waits from below meets them, who is between them does not.
            good, bad = span(3, good_end, 4, 1), span(1, 1, 3, bad_end)
            free = (span(3, 1, 4, 1),) if good_end == 1 and bad_end == 0 else (span(3, 0, 4, 1),)
            if good_end == 0 and bad_end == 0:
                # At 3 itself there is nothing: one waits on into the goods.
                free = (span(3, 1, 4, 1),)
            self.assertIs(are_equal(way(HALL, 0, (good,), (bad,)), free), True)
            # The bads begin where the goods end.
            good, bad = span(1, 1, 3, good_end), span(3, bad_end, 4, 1)
            last = 1 if good_end == 1 and bad_end == 0 else 0
            self.assertIs(are_equal(way(HALL, 0, (good,), (bad,)), (span(0, 1, 3, last),)), True)

    def test_bads_ahead_behind_and_at_the_point(self):
        good = span(2, 1, 3, 1)
        for bad, expected in (
            (span(1, 1, 1, 1), (span(1, 0, 3, 1),)), (span(4, 1, 5, 1), (span(0, 1, 3, 1),)), (span(0, 1, 0, 1), (span(0, 0, 3, 1),)),
            (span(2, 1, 2, 1), (span(2, 0, 3, 1),)), (span(3, 1, 3, 1), (span(0, 1, 3, 0),)), (span(2, 1, 3, 1), ()),
            (span(2, 0, 3, 0), (span(0, 1, 2, 1), span(3, 1, 3, 1))), (everything(1), ()), (span(0, 1, 2, 1), (span(2, 0, 3, 1),)),
            (span(1, 0, 2, 0), (span(0, 1, 1, 1), span(2, 1, 3, 1))[1:]), (span(3, 0, None, 0), (span(0, 1, 3, 1),)),
        ):
            self.assertIs(are_equal(way(HALL, 0, (good,), (bad,)), expected), True, bad)

    def test_limits(self):
        high = span(5, 1, None, 0)
        self.assertIs(are_equal(way(HALL, 0, (high,), ()), (limits(HALL, 0),)), True)
        self.assertEqual(way(HALL, 1, (high,), ()), ())
        self.assertIs(are_equal(way(HALL, 2, (high,), ()), (everything(1),)), True)
        self.assertEqual(way(HALL, 0, (span(5, 0, None, 0),), ()), ())
        # Bads beyond the limits are never met.
        self.assertIs(are_equal(way(HALL, 0, (span(4, 1, None, 0),), (span(5, 0, 6, 1),)), (limits(HALL, 0),)), True)
        self.assertIs(are_equal(way(HALL, 2, (span(7, 1, None, 0),), (span(5, 0, 6, 1),)), (span(6, 0, None, 0),)), True)

    def test_no_goods_no_bads_no_clocks(self):
        self.assertEqual(way(HALL, 0, (), ()), ())
        self.assertEqual(way(HALL, 0, (), (everything(1),)), ())
        self.assertEqual(way(HALL, 2, (everything(1),), ()), (everything(1),))
        free, all_of_it = Machine(0, ((),), ()), (everything(0),)
        self.assertEqual(way(free, 0, all_of_it, ()), all_of_it)
        self.assertEqual(way(free, 0, all_of_it, all_of_it), ())
        self.assertEqual(way(free, 0, (), ()), ())

    def test_what_is_not_true(self):
        # [10.6]: a point of the goods that is bad as well; who passes ahead of the bads can wait into them.
        self.assertIs(area_has(way(HALL, 0, (span(2, 1, 3, 1),), (span(2, 1, 2, 1),)), (1, (2,))), False)
        found = way(HALL, 0, (span(1, 1, 1, 1),), (span(2, 1, 3, 1),))
        self.assertIs(are_equal(found, less((earlier_lot(span(1, 1, 1, 1)),), (earlier_lot(span(2, 1, 3, 1)),))), False)
        # A bad lot between two goods: both have a part in the way.
        goods, bad = (span(1, 1, 1, 1), span(4, 1, 4, 1)), span(2, 1, 3, 1)
        both = way(HALL, 0, goods, (bad,))
        for good in goods:
            self.assertIs(are_equal(both, way(HALL, 0, (good,), (bad,))), False)
        # A point that is not in the way, and cannot wait into the bads.
        self.assertIs(area_has(both, (2, (9,))), False)
        self.assertEqual(safe_pauses(HALL, at(9, 2), (bad,)), longest(HALL, at(9, 2)))


class SafePausesTest(Ways):
    def test_just_the_safe_pauses(self):
        kinds = {}
        for random, machine, _, bads in drawn_ones("safe", 200):
            for standing in standings_near(random, machine, bads):
                told = safe_pauses(machine, standing, bads)
                kind = told if told in (None, ()) else told[1]
                kinds[kind] = kinds.get(kind, 0) + 1
                safe = {pause for pause, _ in safe_moments(machine, standing, (), bads)}
                for pause in ends_ahead(machine, standing, (bads,)):
                    within = told is None
                    if told:
                        within = pause < Fraction(*told[0]) or (pause == Fraction(*told[0]) and told[1] == 1)
                    self.assertIs(pause in safe, within, (machine.places, bads, standing, told))
        for kind in (None, (), 0, 1):
            self.assertGreater(kinds[kind], 50)

    def test_no_bads_are_the_limits_alone(self):
        for random, machine, _, _ in drawn_ones("safe longest", 100):
            standing = drawn_standing(random, machine)
            self.assertEqual(safe_pauses(machine, standing, ()), longest(machine, standing))

    def test_ends(self):
        self.assertEqual(safe_pauses(HALL, at(1, 2), (span(1, 0, 2, 0),)), ((1, 2), 1))
        self.assertEqual(safe_pauses(HALL, at(1, 2), (span(1, 1, 2, 0),)), ((1, 2), 0))
        self.assertEqual(safe_pauses(HALL, at(1), (span(1, 0, 2, 0),)), ((0, 1), 1))
        self.assertEqual(safe_pauses(HALL, at(1), (span(1, 1, 2, 0),)), ())
        self.assertEqual(safe_pauses(HALL, at(2), (span(1, 1, 2, 0),)), ((3, 1), 1))
        self.assertEqual(safe_pauses(HALL, at(2), (span(1, 1, 2, 1),)), ())
        self.assertEqual(safe_pauses(HALL, at(2, 1, 1), (span(1, 1, 2, 0),)), ((3, 1), 0))
        self.assertEqual(safe_pauses(HALL, at(2, 1, 2), (span(1, 1, 2, 0),)), None)
        # Of several bads the first one met, and of two met at one moment the one that has it.
        self.assertEqual(safe_pauses(HALL, at(0), (span(4, 1, 4, 1), span(3, 1, 3, 1))), ((3, 1), 0))
        self.assertEqual(safe_pauses(HALL, at(0), (span(3, 0, 4, 1), span(3, 1, 3, 1))), ((3, 1), 0))
        self.assertEqual(safe_pauses(HALL, at(0), (span(3, 0, 4, 1), span(4, 1, 5, 1))), ((3, 1), 1))
        self.assertEqual(safe_pauses(HALL, at(0), (span(5, 0, 6, 1),)), ((5, 1), 1))
        self.assertEqual(safe_pauses(HALL, at(0), (span(5, 1, 6, 1),)), ((5, 1), 0))
        free = Machine(0, ((),), ())
        self.assertEqual(safe_pauses(free, (0, (1, ())), ()), None)
        self.assertEqual(safe_pauses(free, (0, (1, ())), (everything(0),)), ())

    def test_long_numbers(self):
        self.assertEqual(safe_pauses(HALL, at(1, GREATEST), (span(3, 1, 3, 1),)), ((3 * GREATEST - 1, GREATEST), 0))


class RightPausesTest(Ways):
    def test_the_simplest_one(self):
        kinds = {True: 0, False: 0}
        for random, machine, goods, bads in drawn_ones("simplest right", 100):
            for standing in standings_near(random, machine, goods + bads):
                ends = ends_ahead(machine, standing, (goods, bads))
                told = pause_for(machine, standing, goods, bads)
                kinds[told is None] += 1
                self.assertIs(told is not None, has_right_pause(machine, standing, goods, bads))
                if told is not None and told[1] < 20:
                    self.assertEqual(told, self.simplest(machine, standing, goods, bads, ends))
        self.assertGreater(min(kinds.values()), 200)

    def simplest(self, machine, standing, goods, bads, ends):
        """The simplest right pause, by a look at one after the other."""
        for bottom in count(1):
            for top in range(int(ends[-1] + 1) * bottom + 1):
                if is_right_told(machine, standing, goods, bads, Fraction(top, bottom), ends):
                    return (top, bottom)

    def test_right_pauses(self):
        kinds = {True: 0, False: 0}
        for random, machine, goods, bads in drawn_ones("right", 100):
            for standing in standings_near(random, machine, goods + bads):
                for pause, good in safe_moments(machine, standing, goods, bads):
                    kinds[good] += 1
                    times = random.choice((1, 2, 6))
                    value = (pause.numerator * times, pause.denominator * times)
                    self.assertIs(is_pause_for(machine, standing, goods, bads, value), good)
        self.assertGreater(min(kinds.values()), 200)

    def test_pauses_that_are_not_safe(self):
        for random, machine, goods, bads in drawn_ones("not safe", 60):
            for standing in standings_near(random, machine, goods + bads):
                safe = {pause for pause, _ in safe_moments(machine, standing, goods, bads)}
                for pause in ends_ahead(machine, standing, (goods, bads)):
                    if pause not in safe:
                        value = (pause.numerator, pause.denominator)
                        self.assertIs(is_pause_for(machine, standing, goods, bads, value), False)

    def test_ends(self):
        goods, bads = (span(1, 0, 2, 0), span(3, 1, 3, 1)), (span(4, 1, 4, 1),)
        self.assertEqual(pause_for(HALL, at(0), goods, ()), (3, 1))
        self.assertEqual(pause_for(HALL, at(0), goods, bads), (3, 1))
        self.assertEqual(pause_for(HALL, at(0), goods, (span(2, 1, 2, 1),)), (3, 2))
        self.assertEqual(pause_for(HALL, at(0), goods, (span(2, 0, 3, 0),)), (3, 2))
        self.assertEqual(pause_for(HALL, at(0), goods, (span(1, 1, 1, 1),)), None)
        self.assertEqual(pause_for(HALL, at(3, 2), goods, ()), (0, 1))
        self.assertEqual(pause_for(HALL, at(3, 2), goods[1:], ()), (3, 2))
        self.assertEqual(pause_for(HALL, at(3, 2), goods, (span(1, 0, 2, 1),)), None)
        self.assertEqual(pause_for(HALL, at(4), goods, ()), None)
        self.assertEqual(pause_for(HALL, at(0), (span(5, 1, None, 0),), ()), (5, 1))
        self.assertEqual(pause_for(HALL, at(0, 1, 1), (span(5, 1, None, 0),), ()), None)
        self.assertEqual(pause_for(HALL, at(0, 1, 1), (span(4, 0, None, 0),), ()), (9, 2))
        self.assertEqual(pause_for(HALL, at(0, 1, 2), (span(4, 0, None, 0),), ()), (5, 1))

    def test_terms_and_long_numbers(self):
        good = (span(1, 1, 1, 1),)
        for value, expected in (
            ((1, 2), True), ((2, 4), True), ((GREATEST // 9 * 2, GREATEST // 9 * 4), True), ((1, 3), False), ((3, 2), False),
            ((10 ** 60, 2 * 10 ** 60), False), ((0, 1), False), ((-1, 2), False), ((1, 2, 3), False),
        ):
            self.assertIs(is_pause_for(HALL, at(1, 2), good, (), value), expected)
        self.assertEqual(pause_for(HALL, at(1, GREATEST), good, ()), (GREATEST - 1, GREATEST))

    def test_no_least_right_pause(self):
        # [10.6]
        self.assertEqual(pause_for(HALL, at(0), (span(1, 0, 2, 0),), ()), (3, 2))
        for bottom in (3, 50, 10 ** 40):
            self.assertIs(is_pause_for(HALL, at(0), (span(1, 0, 2, 0),), (), (bottom + 1, bottom)), True)
        self.assertIs(is_pause_for(HALL, at(0), (span(1, 0, 2, 0),), (), (1, 1)), False)


if __name__ == "__main__":
    unittest.main()
