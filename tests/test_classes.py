"""[7.1] to [7.6]: classes of points, what is alike, waiting along classes, their lots, and how many there are."""

import unittest
from fractions import Fraction
from itertools import product
from math import factorial

from pauseplay.base.points import later, set_back
from pauseplay.lots.lots import has_point, is_lot, lot_or_ring, point_of
from pauseplay.lots.moves import ahead_of_back, earlier_lot
from pauseplay.machine import classes
from pauseplay.machine.classes import all_classes, are_alike, back_class, class_of, classes_waited, how_many, is_class
from pauseplay.machine.classes import lot_of_class, next_class, point_in
from tests.drawn import crossings, drawn_point, is_in, keeps, near_points, point_showing, seeded, shown_by, subsets
from tests.kinds import GREATEST, NOT_CLASSES, Calls
from tests.plain import class_points, plain_class

# All pairs of clocks and most with few classes, and a larger one.
SMALL = [(clocks, most) for clocks in range(4) for most in range(4 - clocks)] + [(3, 1), (2, 4), (4, 0), (1, 20)]


def told_class(shown, most):
    """The class by a plain look: wholes, even clocks, groups by growing rests."""
    wholes, even, rests = [], [], {}
    for clock, number in enumerate(shown, start=1):
        wholes.append(most + 1 if number > most else int(number // 1))
        if number <= most and number % 1 == 0:
            even.append(clock)
        elif number <= most:
            rests.setdefault(number % 1, []).append(clock)
    return (tuple(wholes), tuple(even), tuple(tuple(rests[rest]) for rest in sorted(rests)))


def rules_up_to(clocks, most):
    """All rules of [7.2]."""
    rules = []
    for clock, k, end in product(range(1, clocks + 1), range(most + 1), (0, 1)):
        rules.extend([(clock, 0, (k, end)), (0, clock, (-k, end))])
    return rules


def drawn_points(name, many, clocks=None):
    """Drawn points, each with a most."""
    random = seeded(name)
    for turn in range(many):
        yield random, drawn_point(random, turn % 5 if clocks is None else clocks), random.randint(0, 6)


class ClassOfTest(unittest.TestCase):
    def test_constants(self):
        self.assertEqual((classes.MOST_CLASSES, classes.MOST_WHOLE), (5000, 20))

    def test_classes_of_drawn_points(self):
        for _, point, most in drawn_points("classes", 600):
            self.assertEqual(class_of(point, most), told_class(shown_by(point)[1:], most))
            self.assertIs(is_class(len(point[1]), most, class_of(point, most)), True)

    def test_ends(self):
        # At the most itself a clock is even, just above it it is above.
        self.assertEqual(class_of((1, (2,)), 2), ((2,), (1,), ()))
        self.assertEqual(class_of((100, (201,)), 2), ((3,), (), ()))
        self.assertEqual(class_of((100, (199,)), 2), ((1,), (), ((1,),)))
        self.assertEqual(class_of((3, (0,)), 0), ((0,), (1,), ()))
        self.assertEqual(class_of((GREATEST, (1,)), 0), ((1,), (), ()))
        self.assertEqual(class_of((1, (GREATEST,)), 20), ((21,), (), ()))
        self.assertEqual(class_of((1, (20,)), 20), ((20,), (1,), ()))
        self.assertEqual(class_of((7, ()), 3), ((), (), ()))

    def test_rests(self):
        self.assertEqual(class_of((6, (3, 9, 2, 13)), 2), ((0, 1, 0, 3), (), ((3,), (1, 2))))
        self.assertEqual(class_of((6, (8, 2, 12, 3)), 2), ((1, 0, 2, 0), (3,), ((1, 2), (4,))))
        # Rests that only a long bottom parts.
        bottom = 10 ** 40
        self.assertEqual(class_of((bottom, (1, bottom + 2, 2 * bottom + 1)), 3), ((0, 1, 2), (), ((1, 3), (2,))))
        self.assertEqual(class_of((GREATEST, (GREATEST - 1, GREATEST - 2)), 1), ((0, 0), (), ((2,), (1,))))
        self.assertIs(are_alike((GREATEST, (1, 2)), (GREATEST, (2, 1)), 1), False)
        self.assertIs(are_alike((GREATEST, (1, 2)), (3, (1, 2)), 1), True)

    def test_terms(self):
        self.assertEqual(class_of((4, (2, 6)), 2), class_of((2, (1, 3)), 2))


class AlikeTest(unittest.TestCase):
    def pairs(self, name, many):
        """Drawn points with others, half of them alike."""
        for random, point, most in drawn_points(name, many):
            clocks = len(point[1])
            yield random, point, drawn_point(random, clocks), most
            inside = lot_of_class(clocks, most, class_of(point, most))
            yield random, point, random.choice([each for each in near_points(point) if has_point(inside, each)]), most
            yield random, point, point_of(inside), most

    def test_alike_is_of_one_class(self):
        kinds = {True: 0, False: 0}
        for _, one, other, most in self.pairs("alike", 200):
            expected = plain_class(shown_by(one), most) == plain_class(shown_by(other), most)
            kinds[expected] += 1
            self.assertIs(are_alike(one, other, most), expected)
        self.assertGreater(min(kinds.values()), 100)

    def test_alike_points_keep_the_same_rules_also_behind_setting_back(self):
        # [7.2]
        for _, one, other, most in self.pairs("rules", 100):
            if are_alike(one, other, most):
                for rule in rules_up_to(len(one[1]), most):
                    self.assertIs(keeps(one, rule), keeps(other, rule))
                for back in subsets(len(one[1])):
                    self.assertIs(are_alike(set_back(one, back), set_back(other, back), most), True)

    def test_what_is_not_true(self):
        # [7.6]: points that keep the same rules, and are not alike; alike ones that equal pauses part.
        one, other = (4, (1, 2)), (4, (2, 1))
        for rule in rules_up_to(2, 1):
            self.assertIs(keeps(one, rule), keeps(other, rule))
        self.assertIs(are_alike(one, other, 1), False)
        self.assertIs(are_alike((4, (1,)), (4, (3,)), 2), True)
        self.assertIs(are_alike(later((4, (1,)), (1, 2)), later((4, (3,)), (1, 2)), 2), False)


class IsClassTest(unittest.TestCase):
    def test_just_the_classes_of_points(self):
        for clocks, most in ((0, 0), (1, 0), (1, 2), (2, 0), (2, 1), (3, 0)):
            found = {told_class(shown[1:], most) for shown in class_points(clocks, most).values()}
            groups = {parted[2] for parted in found} | {((1,), (2,)), ((2,), (1,)), ((1, 2),), ((1,),), ((3,),), ()}
            for wholes in product(range(most + 3), repeat=clocks):
                for even in subsets(clocks):
                    for group in groups:
                        told = (wholes, even, group)
                        self.assertIs(is_class(clocks, most, told), told in found)

    def test_wrong_values(self):
        for value in NOT_CLASSES:
            for clocks, most in ((2, 2), (2, 1), (0, 0)):
                if (clocks, most) == (2, 2) or value not in (((0, 0), (1, 2), ()), ((), (), ())):
                    self.assertIs(is_class(clocks, most, value), False)
        self.assertIs(is_class(2, 2, ((0, 0), (1, 2), ())), True)
        self.assertIs(is_class(3, 2, ((0, 0), (1, 2), ())), False)

    def test_the_most(self):
        self.assertIs(is_class(1, 20, ((21,), (), ())), True)
        self.assertIs(is_class(1, 20, ((20,), (1,), ())), True)
        self.assertIs(is_class(1, 19, ((21,), (), ())), False)
        self.assertIs(is_class(1, 19, ((20,), (1,), ())), False)


class PointsAndLotsTest(unittest.TestCase):
    def test_a_point_of_each_class(self):
        for clocks, most in SMALL:
            for told in all_classes(clocks, most):
                point = point_in(clocks, most, told)
                self.assertEqual(class_of(point, most), told)
                groups = len(told[2])
                for clock, number in enumerate(shown_by(point)[1:], start=1):
                    if told[0][clock - 1] > most:
                        self.assertEqual(number, most + 1)
                    else:
                        rest = [at + 1 for at, group in enumerate(told[2]) if clock in group] or [0]
                        self.assertEqual(number, told[0][clock - 1] + Fraction(rest[0], groups + 1))
                self.assertEqual(point, point_showing(shown_by(point)[1:]))

    def test_the_lot_has_just_the_points_of_the_class(self):
        random = seeded("lots of classes")
        for clocks, most in SMALL:
            every = all_classes(clocks, most)
            points = [point_in(clocks, most, told) for told in random.sample(every, min(12, len(every)))]
            points += [drawn_point(random, clocks, most + 1) for _ in range(12)]
            for told in random.sample(every, min(20, len(every))):
                lot = lot_of_class(clocks, most, told)
                self.assertIs(is_lot(lot), True)
                self.assertIs(is_in(lot, point_in(clocks, most, told)), True)
                for point in points + near_points(point_of(lot), (Fraction(1, 16), Fraction(1))):
                    self.assertIs(is_in(lot, point), class_of(point, most) == told)

    def test_lots_of_rules_have_all_points_of_a_class_or_none(self):
        # [7.4], also for what waits into them and for what is set back into them.
        random = seeded("whole classes")
        for turn in range(60):
            clocks, most = 1 + turn % 3, random.randint(0, 3)
            rules = random.choices(rules_up_to(clocks, most), k=random.randint(1, 4))
            kind, lot = lot_or_ring(clocks, tuple(rules))
            if kind == "ring":
                continue
            lots = [lot, earlier_lot(lot)]
            lots += [ahead for ahead in (ahead_of_back(each, back) for each in lots for back in subsets(clocks)) if ahead]
            for _ in range(5):
                point = drawn_point(random, clocks, most + 1)
                inside = lot_of_class(clocks, most, class_of(point, most))
                alike = [beside for beside in near_points(point, (Fraction(1, 8), Fraction(1))) if is_in(inside, beside)]
                for each in set(lots):
                    self.assertEqual({is_in(each, beside) for beside in alike}, {is_in(each, point)})

    def test_differences_of_clocks_part_points_of_one_class(self):
        self.assertIs(are_alike((1, (3, 5)), (1, (5, 3)), 2), True)
        lot = lot_or_ring(2, ((1, 2, (0, 0)),))[1]
        self.assertEqual([is_in(lot, (1, (3, 5))), is_in(lot, (1, (5, 3)))], [True, False])

    def test_whole_numbers_and_halves_are_not_enough(self):
        # [7.6]
        told = ((0, 0), (), ((1,), (2,)))
        for values in product(range(4), repeat=2):
            self.assertNotEqual(class_of((2, values), 1), told)
        self.assertEqual(point_in(2, 1, told), (3, (1, 2)))


class WaitingTest(unittest.TestCase):
    def passed(self, point, most):
        """The classes that a point goes through, by a look at each moment."""
        shown = shown_by(point)
        ends = sorted(crossings([k - number for number in shown[1:] for k in range(most + 2)]))
        found = []
        for pause in ends:
            told = told_class([number + pause for number in shown[1:]], most)
            if told not in found[-1:]:
                found.append(told)
        return tuple(found)

    def test_one_class_behind_the_other(self):
        for _, point, most in drawn_points("waiting", 250):
            clocks, told = len(point[1]), class_of(point, most)
            expected = self.passed(point, most)
            self.assertEqual(classes_waited(clocks, most, told), expected)
            self.assertEqual(next_class(clocks, most, told), expected[1] if len(expected) > 1 else None)

    def test_alike_points_go_through_the_same_classes(self):
        # [7.3]
        for _, point, most in drawn_points("same way", 100):
            inside = lot_of_class(len(point[1]), most, class_of(point, most))
            for other in near_points(point):
                if is_in(inside, other):
                    self.assertEqual(self.passed(other, most), self.passed(point, most))

    def test_each_class_of_few(self):
        for clocks, most in SMALL:
            for told in all_classes(clocks, most):
                expected = self.passed(point_in(clocks, most, told), most)
                self.assertEqual(classes_waited(clocks, most, told), expected)

    def test_classes_that_are_never_left(self):
        self.assertIsNone(next_class(0, 3, ((), (), ())))
        self.assertEqual(classes_waited(0, 3, ((), (), ())), (((), (), ()),))
        self.assertIsNone(next_class(2, 0, ((1, 1), (), ())))
        self.assertEqual(classes_waited(1, 20, ((21,), (), ())), (((21,), (), ()),))
        self.assertEqual(len(classes_waited(1, 20, ((0,), (1,), ()))), 42)

    def test_ends(self):
        # Even clocks at the most go above, beside others that get a rest.
        self.assertEqual(next_class(3, 2, ((2, 1, 0), (1, 2), ((3,),))), ((3, 1, 0), (), ((2,), (3,))))
        self.assertEqual(next_class(2, 2, ((2, 2), (1, 2), ())), ((3, 3), (), ()))
        self.assertEqual(next_class(3, 2, ((0, 1, 3), (), ((1, 2),))), ((1, 2, 3), (1, 2), ()))
        self.assertEqual(next_class(1, 0, ((0,), (1,), ())), ((1,), (), ()))


class BackTest(unittest.TestCase):
    def test_the_class_behind_setting_back(self):
        for _, point, most in drawn_points("back", 200):
            clocks = len(point[1])
            for back in subsets(clocks):
                self.assertEqual(
                    back_class(clocks, most, class_of(point, most), back), class_of(set_back(point, back), most)
                )

    def test_ends(self):
        told = ((0, 3, 1, 1), (), ((3,), (1, 4)))
        self.assertEqual(back_class(4, 2, told, ()), told)
        self.assertEqual(back_class(4, 2, told, (3,)), ((0, 3, 0, 1), (3,), ((1, 4),)))
        self.assertEqual(back_class(4, 2, told, (1, 2)), ((0, 0, 1, 1), (1, 2), ((3,), (4,))))
        self.assertEqual(back_class(4, 2, told, (1, 2, 3, 4)), ((0, 0, 0, 0), (1, 2, 3, 4), ()))
        self.assertEqual(back_class(0, 2, ((), (), ()), ()), ((), (), ()))


class HowManyTest(Calls, unittest.TestCase):
    def test_the_told_sum(self):
        ways = (1, 1, 3, 13, 75)
        for clocks in range(5):
            for most in range(21):
                whole = 0
                for above, even, rest in product(range(clocks + 1), repeat=3):
                    if above + even + rest == clocks:
                        parted = factorial(clocks) // (factorial(above) * factorial(even) * factorial(rest))
                        whole += parted * (most + 1) ** even * most ** rest * ways[rest]
                self.assertEqual(how_many(clocks, most), whole)

    def test_all_classes(self):
        for clocks, most in SMALL:
            found = all_classes(clocks, most)
            self.assertEqual(len(found), how_many(clocks, most))
            self.assertEqual(list(found), sorted(set(found)))
            self.assertEqual(set(found), {told_class(shown[1:], most) for shown in class_points(clocks, most).values()})
            self.assertIsInstance(found, tuple)

    def test_the_greatest_numbers_that_can_be_told(self):
        self.assertEqual(how_many(4, 2), 4784)
        found = all_classes(4, 2)
        self.assertEqual((len(found), len(set(found))), (4784, 4784))
        self.assertEqual(list(found), sorted(found))
        self.assertTrue(all(is_class(4, 2, told) for told in found))
        for most in (3, 4, 20):
            self.assertGreater(how_many(4, most), 5000)
            self.assert_too_many(5000, all_classes, 4, most)
        for clocks in range(4):
            for most in (5, 8, 20):
                if how_many(clocks, most) > 5000:
                    self.assert_too_many(5000, all_classes, clocks, most)
                else:
                    self.assertEqual(len(all_classes(clocks, most)), how_many(clocks, most))

    def test_no_clocks(self):
        for most in (0, 7, 20):
            self.assertEqual(all_classes(0, most), (((), (), ()),))
            self.assertEqual(how_many(0, most), 1)

    def test_told_points_are_in_lowest_terms(self):
        self.assertEqual(point_in(1, 1, ((0,), (), ((1,),))), (2, (1,)))
        self.assertEqual(point_in(2, 3, ((1, 3), (1, 2), ())), (1, (1, 3)))


if __name__ == "__main__":
    unittest.main()
