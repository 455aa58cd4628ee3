"""[4.3]: within, or a point: roots and knots, and who judges them."""

import unittest
from math import gcd

from pauseplay.errors import InvalidArea, InvalidNumber, TooMany
from pauseplay.lots.areas import are_equal, is_within_or_point, less, within_or_point
from pauseplay.lots.lots import everything, is_lot_within, lot_or_ring, rules_of
from tests.drawn import drawn_area, drawn_lot, is_in_some, seeded
from tests.kinds import GREATEST, NOT_AREAS, NOT_CLOCK_NUMBERS, NOT_INTEGERS, NOT_POINTS, NOT_RULES, TOO_GREAT, Calls

NO_CLOCKS = (((0, 1),),)
ALL = everything(1)
EARLY = lot_or_ring(1, ((1, 0, (3, 1)),))[1]
LATE = lot_or_ring(1, ((0, 1, (-2, 0)),))[1]
KNOTS = (("cut", (1, 0, (3, 1)), 1, 2), ("in", 0), ("in", 1))


def kept(lot, rule):
    """The lot of the points that keep the rule, by all rules anew; None if there are none."""
    kind, found = lot_or_ring(len(lot) - 1, rules_of(lot) + (rule,))
    return found if kind == "lot" else None


def is_paper_told(one, other, roots, knots):
    """A plain look: from each root along the cuts, each knot come to once, each lot made anew by all of its rules."""
    left = list(range(len(knots)))

    def holds(at, lot):
        if at not in left:
            return False
        left.remove(at)
        if knots[at][0] == "in":
            return is_lot_within(lot, other[knots[at][1]])
        _, (first, last, bound), inside, outside = knots[at]
        parts = (kept(lot, (first, last, bound)), kept(lot, (last, first, (-bound[0], 1 - bound[1]))))
        return all(
            part is None if index is None else part is not None and index > at and holds(index, part)
            for index, part in zip((inside, outside), parts)
        )

    return len(roots) == len(one) and all([holds(at, lot) for at, lot in zip(roots, one)]) and left == []


class WithinOrPointTest(Calls, unittest.TestCase):
    def assert_either(self, clocks, one, other):
        value = within_or_point(clocks, one, other)
        with self.subTest(one=one, other=other):
            self.assertIs(is_within_or_point(clocks, one, other, value), True)
            if value[0] == "point":
                self.assertEqual(len(value), 2)
                self.assertTrue(is_in_some(one, value[1]) and not is_in_some(other, value[1]))
                self.assertEqual(gcd(value[1][0], *value[1][1]), 1)
            else:
                kind, roots, knots = value
                self.assertEqual(kind, "within")
                self.assertEqual((isinstance(roots, tuple), isinstance(knots, tuple)), (True, True))
                self.assertTrue(is_paper_told(one, other, roots, knots))
        return value[0]

    def test_either_or(self):
        random = seeded("within or point")
        kinds = {"within": 0, "point": 0}
        for turn in range(250):
            clocks = turn % 5
            one, other = drawn_area(random, clocks), drawn_area(random, clocks, 6)
            kinds[self.assert_either(clocks, one, other)] += 1
            kinds[self.assert_either(clocks, one, other + less(one, other))] += 1
            kinds[self.assert_either(clocks, less(one, other), one)] += 1
        self.assertGreater(min(kinds.values()), 50)

    def test_each_lot_of_a_cut_area_but_one(self):
        random = seeded("but one")
        for turn in range(40):
            clocks = 1 + turn % 4
            one = (drawn_lot(random, clocks, 2),)
            pieces = less(one, (drawn_lot(random, clocks, 5),)) or one
            without = pieces[1:]
            expected = "within" if are_equal(pieces, without) else "point"
            self.assertEqual(self.assert_either(clocks, pieces, without), expected)
            self.assertEqual(self.assert_either(clocks, pieces, pieces[::-1]), "within")

    def test_nothing_and_equal_lots(self):
        for clocks in range(5):
            lot = everything(clocks)
            self.assertEqual(within_or_point(clocks, (), ()), ("within", (), ()))
            self.assertEqual(within_or_point(clocks, (), (lot,)), ("within", (), ()))
            self.assertEqual(self.assert_either(clocks, (lot,), ()), "point")
            self.assertEqual(self.assert_either(clocks, (lot, lot), (lot,)), "within")
            self.assertEqual(self.assert_either(clocks, (lot,), (lot, lot)), "within")

    def test_ends(self):
        self.assertEqual(self.assert_either(1, (ALL,), (EARLY, LATE)), "within")
        self.assertEqual(self.assert_either(1, (ALL,), (lot_or_ring(1, ((1, 0, (2, 0)),))[1], LATE)), "point")
        self.assertEqual(within_or_point(1, (ALL,), (lot_or_ring(1, ((1, 0, (2, 0)),))[1], LATE)), ("point", (1, (2,))))
        self.assertEqual(self.assert_either(1, (ALL,), (lot_or_ring(1, ((1, 0, (2, 1)),))[1], LATE)), "within")

    def test_lots_without_common_points_that_only_four_bounds_tell(self):
        one = lot_or_ring(3, ((0, 1, (-2, 1)), (2, 3, (0, 0))))[1]
        other = lot_or_ring(3, ((1, 2, (1, 1)), (3, 0, (1, 1))))[1]
        self.assertEqual(self.assert_either(3, (one,), (other,)), "point")
        self.assertEqual(self.assert_either(3, (one,), (other, one)), "within")
        self.assertEqual(self.assert_either(3, (one,), (other, *less((one,), (everything(3),)))), "point")

    def test_long_numbers(self):
        one = ((((0, 1), (1 - GREATEST, 0)), ((GREATEST, 0), (0, 1))),)
        # No point of this lot has 60 digits: what is told cannot be passed on.
        self.assertEqual(within_or_point(1, one, (EARLY,))[1], (2, (2 * GREATEST - 1,)))
        parts = ((((0, 1), (0, 1)), ((GREATEST, 0), (0, 1))), (((0, 1), (-GREATEST, 1)), (None, (0, 1))))
        value = within_or_point(1, (ALL,), parts)
        self.assertEqual(value[0], "within")
        self.assertIs(is_within_or_point(1, (ALL,), parts, value), True)

    def test_many_lots(self):
        pieces = tuple(lot_or_ring(1, ((0, 1, (-k, 1)), (1, 0, (k + 1, 0))))[1] for k in range(1900))
        whole = lot_or_ring(1, ((1, 0, (1900, 0)),))[1]
        value = within_or_point(1, (whole,), pieces)
        self.assertEqual(value[0], "within")
        self.assertIs(is_within_or_point(1, (whole,), pieces, value), True)
        self.assertEqual(within_or_point(1, (whole,), pieces[:700] + pieces[701:]), ("point", (1, (700,))))

    def test_more_knots_than_can_be_told(self):
        # There are as many roots as lots, each with a knot of its own.
        self.assertEqual(within_or_point(1, (EARLY,) * 4000, (ALL,))[0], "within")
        with self.assertRaises(TooMany) as caught:
            within_or_point(1, (EARLY,) * 4001, (ALL,))
        self.assertEqual(caught.exception.limit, 4000)
        self.assertEqual(within_or_point(1, (EARLY,) * 4001 + (LATE,), (EARLY,)), ("point", (1, (4,))))

    def test_wrong_values(self):
        for value in NOT_CLOCK_NUMBERS:
            self.assert_number_refused(value, within_or_point, value, (), ())
        for value in NOT_AREAS + ((everything(2),), (NO_CLOCKS,), (ALL, everything(2))):
            self.assert_refused(InvalidArea, within_or_point, 1, value, (ALL,))
            self.assert_refused(InvalidArea, within_or_point, 1, (ALL,), value)

    def test_the_first_wrong_value_is_told(self):
        self.assert_number_refused(5, within_or_point, 5, None, None)
        self.assert_refused(InvalidNumber, within_or_point, None, None, None)
        self.assert_refused(InvalidArea, within_or_point, 2, (ALL,), (ALL,))


class IsWithinOrPointTest(Calls, unittest.TestCase):
    ONE = (ALL, EARLY)
    OTHER = (EARLY, LATE, EARLY)
    TOLD = (
        ("cut", (1, 0, (3, 1)), 2, 3),
        ("in", 2),
        ("in", 0),
        ("cut", (0, 1, (-3, 0)), 4, None),
        ("cut", (1, 0, (5, 0)), 6, 5),
        ("in", 1),
        ("in", 1),
    )
    ROOTS = (0, 1)

    def judged(self, roots, knots, one=ONE, other=OTHER):
        return is_within_or_point(1, one, other, ("within", roots, knots))

    def test_told_knots(self):
        self.assertIs(is_within_or_point(1, (ALL,), (EARLY, LATE), ("within", (0,), KNOTS)), True)
        self.assertIs(self.judged(self.ROOTS, self.TOLD), True)
        self.assertTrue(is_paper_told(self.ONE, self.OTHER, self.ROOTS, self.TOLD))

    def test_knots_in_other_sequences(self):
        self.assertIs(self.judged((1, 0), (("in", 0), ("cut", (1, 0, (3, 1)), 3, 2), ("in", 1), ("in", 0))), True)
        self.assertIs(self.judged((0, 3), (("cut", (1, 0, (3, 1)), 1, 2), ("in", 0), ("in", 1), ("in", 0))), True)
        self.assertIs(self.judged((0, 1), (("cut", (1, 0, (3, 1)), 3, 2), ("in", 0), ("in", 1), ("in", 0))), True)
        # A cut stands ahead of its parts.
        self.assertIs(self.judged((3, 0), (("in", 0), ("in", 0), ("in", 1), ("cut", (1, 0, (3, 1)), 1, 2))), False)
        self.assertIs(self.judged((1, 0), (("in", 0), ("cut", (1, 0, (3, 1)), 1, 2), ("in", 1))), False)
        self.assertIs(self.judged((1,), (("in", 0), ("cut", (1, 0, (9, 1)), 0, None)), (EARLY,)), False)
        self.assertIs(self.judged((0,), (("cut", (1, 0, (9, 1)), 1, None), ("in", 0)), (EARLY,)), True)
        self.assertIs(self.judged((), (("cut", (1, 0, (9, 1)), 0, None),), ()), False)

    def test_each_knot_is_told_just_once(self):
        base = (("cut", (1, 0, (3, 1)), 1, 2), ("in", 0), ("in", 1))
        one, other = (ALL,), (EARLY, LATE)
        self.assertIs(self.judged((0,), base, one, other), True)
        # One in no cut, and no root.
        self.assertIs(self.judged((0,), base + (("in", 0),), one, other), False)
        # One in two cuts, a root in a cut, one root twice.
        high = lot_or_ring(1, ((0, 1, (-3, 0)),))[1]
        twice = (("cut", (1, 0, (3, 1)), 2, 3), ("cut", (1, 0, (3, 1)), None, 3), ("in", 0), ("in", 1))
        self.assertIs(self.judged((0, 1), twice, (ALL, high), other), False)
        self.assertIs(self.judged((0, 1), base, (ALL, EARLY), other), False)
        self.assertIs(self.judged((0, 0), (("in", 0),), (EARLY, EARLY), other), False)
        self.assertIs(self.judged((0, 1), (("in", 0), ("in", 0)), (EARLY, EARLY), other), True)
        self.assertIs(self.judged((0,), (("cut", (1, 0, (3, 1)), 1, 1), ("in", 0)), one, (ALL,)), False)
        self.assertIs(self.judged((0,), (("cut", (1, 0, (3, 1)), 0, 1), ("in", 0)), one, (ALL,)), False)

    def test_a_root_for_each_lot(self):
        knots = (("in", 0), ("in", 0))
        for roots, let in (((0, 1), True), ((1, 0), True), ((0,), False), ((0, 1, 1), False), ((), False), ((0, 2), False)):
            self.assertIs(self.judged(roots, knots, (EARLY, EARLY)), let)
        self.assertIs(self.judged((0, -1), knots, (EARLY, EARLY)), False)
        self.assertIs(self.judged((), (), ()), True)
        self.assertIs(self.judged((), knots, ()), False)
        self.assertIs(self.judged((0,), (), (EARLY,)), False)
        self.assertIs(self.judged((), (), (EARLY,)), False)
        self.assertIs(self.judged((0,), (("in", 0),), (EARLY, EARLY)), False)
        self.assertIs(self.judged((0, 1, 2), (("in", 0),) * 3, (EARLY, EARLY)), False)
        # The roots stand in the sequence of the lots.
        self.assertIs(self.judged((0, 1), (("in", 0), ("in", 1)), (EARLY, LATE)), True)
        self.assertIs(self.judged((1, 0), (("in", 0), ("in", 1)), (EARLY, LATE)), False)

    def test_none_stands_just_where_there_is_nothing(self):
        one, other = (EARLY,), (EARLY,)
        self.assertIs(self.judged((0,), (("cut", (1, 0, (5, 1)), 1, None), ("in", 0)), one, other), True)
        self.assertIs(self.judged((0,), (("cut", (0, 1, (-5, 0)), None, 1), ("in", 0)), one, other), True)
        self.assertIs(self.judged((0,), (("cut", (1, 0, (3, 1)), 1, None), ("in", 0)), one, other), True)
        # None where there is something.
        self.assertIs(self.judged((0,), (("cut", (1, 0, (3, 0)), 1, None), ("in", 0)), one, other), False)
        self.assertIs(self.judged((0,), (("cut", (1, 0, (3, 1)), None, None),), one, other), False)
        self.assertIs(self.judged((0,), (("cut", (1, 0, (5, 1)), None, 1), ("in", 0)), one, other), False)
        # No None where there is nothing.
        self.assertIs(self.judged((0,), (("cut", (1, 0, (5, 1)), 1, 2), ("in", 0), ("in", 0)), one, other), False)
        self.assertIs(self.judged((0,), (("cut", (0, 1, (-5, 0)), 1, 2), ("in", 0), ("in", 0)), one, other), False)

    def test_parts_lie_within_what_is_told(self):
        one, other = (ALL,), (EARLY, LATE)
        for first in range(2):
            for last in range(2):
                knots = (("cut", (1, 0, (3, 1)), 1, 2), ("in", first), ("in", last))
                self.assertIs(self.judged((0,), knots, one, other), (first, last) == (0, 1))
        # The first part keeps the rule, the second one the opposite one, with its end.
        self.assertIs(self.judged((0,), (("cut", (0, 1, (-2, 0)), 1, 2), ("in", 1), ("in", 0)), one, other), True)
        self.assertIs(self.judged((0,), (("cut", (0, 1, (-2, 0)), 1, 2), ("in", 0), ("in", 1)), one, other), False)
        self.assertIs(self.judged((0,), (("cut", (0, 1, (-2, 1)), 1, 2), ("in", 1), ("in", 0)), one, other), False)
        self.assertIs(self.judged((0,), (("cut", (1, 0, (2, 0)), 1, 2), ("in", 0), ("in", 1)), one, other), False)
        self.assertIs(self.judged((0,), (("cut", (1, 0, (2, 1)), 1, 2), ("in", 0), ("in", 1)), one, other), True)

    def test_drawn_papers_with_a_change(self):
        random = seeded("papers")
        judged = {True: 0, False: 0}
        for turn in range(150):
            clocks = 1 + turn % 3
            one, other = drawn_area(random, clocks, 2), drawn_area(random, clocks, 4)
            kind, roots, knots = within_or_point(clocks, common_points(one, other), other)
            self.assertEqual(kind, "within")
            one = common_points(one, other)
            for _ in range(6):
                changed = self.changed(random, clocks, knots, len(other))
                expected = is_paper_told(one, other, roots, changed)
                judged[expected] += 1
                with self.subTest(one=one, other=other, roots=roots, knots=changed):
                    self.assertIs(is_within_or_point(clocks, one, other, ("within", roots, changed)), expected)
        self.assertGreater(min(judged.values()), 30)

    def changed(self, random, clocks, knots, many):
        """The knots with one changed."""
        if not knots:
            return knots
        at = random.randrange(len(knots))
        knot = list(knots[at])
        if knot[0] == "in":
            knot[1] = random.randrange(many)
        else:
            part = random.choice((1, 2, 3))
            if part == 1:
                first, last, (number, end) = knot[1]
                knot[1] = (first, last, random.choice(((number, 1 - end), (number + 1, end), (number, end))))
            else:
                knot[part] = random.choice([None] + list(range(at + 1, len(knots))))
        return knots[:at] + (tuple(knot),) + knots[at + 1:]

    def test_rules_with_long_numbers(self):
        for number in (10 ** 9 + 1, GREATEST):
            knots = (("cut", (1, 0, (number, 0)), 1, 2), ("in", 0), ("in", 0))
            self.assertIs(self.judged((0,), knots, (ALL,), (ALL,)), True)
        for number in (-TOO_GREAT, TOO_GREAT):
            knots = (("cut", (1, 0, (number, 0)), 1, 2), ("in", 0), ("in", 0))
            self.assertIs(self.judged((0,), knots, (ALL,), (ALL,)), False)
        self.assertIs(self.judged((0,), (("cut", (1, 0, (-GREATEST, 1)), None, 1), ("in", 0)), (ALL,), (ALL,)), True)

    def test_at_most_four_thousand_knots(self):
        chain = tuple(("cut", (1, 0, (5, 1)), at + 1, None) for at in range(3999)) + (("in", 0),)
        self.assertIs(self.judged((0,), chain, (EARLY,), (EARLY,)), True)
        chain = tuple(("cut", (1, 0, (5, 1)), at + 1, None) for at in range(4000)) + (("in", 0),)
        self.assertIs(self.judged((0,), chain, (EARLY,), (EARLY,)), False)
        self.assertIs(self.judged(tuple(range(4001)), (("in", 0),) * 4001, (EARLY,) * 4001, (EARLY,)), False)
        self.assertIs(self.judged(tuple(range(4000)), (("in", 0),) * 4000, (EARLY,) * 4000, (EARLY,)), True)

    def test_points(self):
        self.assertIs(is_within_or_point(1, (ALL,), (LATE,), ("point", (1, (2,)))), True)
        self.assertIs(is_within_or_point(1, (ALL,), (LATE,), ("point", (6, (12,)))), True)
        self.assertIs(is_within_or_point(1, (ALL,), (LATE,), ("point", (6, (13,)))), False)
        self.assertIs(is_within_or_point(1, (LATE,), (EARLY,), ("point", (2, (6,)))), False)
        self.assertIs(is_within_or_point(1, (LATE,), (EARLY,), ("point", (2, (4,)))), False)
        self.assertIs(is_within_or_point(1, (LATE,), (EARLY,), ("point", (2, (7,)))), True)
        self.assertIs(is_within_or_point(1, (LATE,), (), ("point", (2, (6,)))), True)
        self.assertIs(is_within_or_point(1, (), (), ("point", (2, (6,)))), False)
        self.assertIs(is_within_or_point(1, (ALL,), (LATE,), ("within", (1, (2,)))), False)
        self.assertIs(is_within_or_point(1, (ALL,), (LATE,), ("Point", (1, (2,)))), False)
        self.assertIs(is_within_or_point(1, (ALL,), (LATE,), (None, (1, (2,)))), False)
        self.assertIs(is_within_or_point(0, (NO_CLOCKS,), (), ("point", (3, ()))), True)
        self.assertIs(is_within_or_point(0, (NO_CLOCKS,), (NO_CLOCKS,), ("point", (3, ()))), False)
        self.assertIs(is_within_or_point(1, (ALL,), (LATE,), ("point", (GREATEST, (1,)))), True)
        self.assertIs(is_within_or_point(1, (ALL,), (LATE,), ("point", (TOO_GREAT, (1,)))), False)
        for value in NOT_POINTS + ((1, ()), (1, (0, 0))):
            self.assertIs(is_within_or_point(1, (ALL,), (LATE,), ("point", value)), False)

    def test_what_is_no_paper_of_either_kind(self):
        others = (
            None, True, 0, "", "within", (), [], {}, ("within",), ("within", (0,)), ("within", (0,), KNOTS, ()), ("point",),
            ["within", (0,), KNOTS], ("point", (1, (2,)), ()), ("within", [0], KNOTS), ("within", (0,), list(KNOTS)),
            ("within", 0, KNOTS), ("within", None, None), ("Within", (0,), KNOTS), ((), (0,), KNOTS), ("in", 0),
            ("point", (0,), KNOTS), ("within", (1, (9,))), ("within", (0,), {0: ("in", 0)}), (None, (1, (9,))),
        )
        for value in others:
            with self.subTest(value=value):
                self.assertIs(is_within_or_point(1, (ALL,), (EARLY, LATE), value), False)

    def test_knots_of_another_form(self):
        others = (
            None, True, 0, "", "in", (), [], {}, ("in",), ["in", 0], ("in", 0, 0), ("in", -1), ("in", 2), ("in", None),
            ("cut", 0), ("cut", (1, 0, (9, 1)), 1), ("cut", (1, 0, (9, 1)), 1, None, None), ["cut", (1, 0, (9, 1)), 1, None],
            ("in", (1, 0, (9, 1)), 1, None), (("in", 0),), ("cut",), (None, 0), (0, 0),
        )
        for value in others + tuple(("in", part) for part in NOT_INTEGERS):
            with self.subTest():
                self.assertIs(self.judged((0,), (value,), (EARLY,), (EARLY, LATE)), False)
        self.assertIs(self.judged((0,), (("in", 1),), (EARLY,), (LATE, EARLY)), True)
        self.assertIs(self.judged((0,), (("in", -1),), (EARLY,), (LATE, EARLY)), False)
        for kind in ("in", "Cut", None):
            knots = ((kind, (1, 0, (9, 1)), None, None), ("in", 0))
            self.assertIs(self.judged((0, 1), knots, (EARLY, EARLY), (EARLY,)), False)
        tail = (("in", 0),)
        self.assertIs(self.judged((0,), (("cut", (1, 0, (9, 1)), 1, None),) + tail, (EARLY,), (EARLY,)), True)
        for rule in NOT_RULES + ((2, 0, (1, 1)), (1, 2, (1, 1))):
            if not (isinstance(rule, tuple) and rule[2:] and isinstance(rule[2], tuple) and abs_of(rule[2]) == 10 ** 9 + 1):
                with self.subTest():
                    self.assertIs(self.judged((0,), (("cut", rule, 1, None),) + tail, (EARLY,), (EARLY,)), False)
        for part in NOT_INTEGERS + (-1, 0, 2):
            if part is not None:
                with self.subTest():
                    self.assertIs(
                        self.judged((0,), (("cut", (1, 0, (9, 1)), part, None),) + tail, (EARLY,), (EARLY,)), False
                    )
                    self.assertIs(
                        self.judged((0,), (("cut", (1, 0, (9, 1)), 1, part),) + tail, (EARLY,), (EARLY,)), False
                    )
        for root in NOT_INTEGERS:
            self.assertIs(self.judged((root,), tail, (EARLY,), (EARLY,)), False)
        # False and True are not the indices 0 and 1.
        self.assertIs(self.judged((False, True), (("in", 0), ("in", 0)), (EARLY, EARLY), (EARLY,)), False)

    def test_wrong_values(self):
        for value in NOT_CLOCK_NUMBERS:
            self.assert_number_refused(value, is_within_or_point, value, (), (), None)
        for value in NOT_AREAS + ((everything(2),), (NO_CLOCKS,)):
            self.assert_refused(InvalidArea, is_within_or_point, 1, value, (), ("within", (), ()))
            self.assert_refused(InvalidArea, is_within_or_point, 1, (ALL,), value, ("within", (), ()))

    def test_the_first_wrong_value_is_told(self):
        self.assert_number_refused(-1, is_within_or_point, -1, None, None, None)
        self.assert_refused(InvalidArea, is_within_or_point, 1, None, None, None)


def common_points(one, other):
    """What both share, in lots that need cuts to be seen within the other: the one's lots, cut by nothing else."""
    return less(one, less(one, other))


def abs_of(bound):
    """How great the number of a bound is, 0 for what is none."""
    is_told = len(bound) == 2 and isinstance(bound[0], int)
    return abs(bound[0]) if is_told else 0


if __name__ == "__main__":
    unittest.main()
