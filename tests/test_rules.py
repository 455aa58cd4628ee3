"""[2.1], [2.4] and [2.5]: rules, and either one lot or a ring."""

import unittest
from itertools import permutations

from pauseplay.errors import InvalidNumber, InvalidOperation
from pauseplay.lots import lots
from pauseplay.lots.lots import everything, has_point, is_lot, is_ring, is_rule, lot_or_ring, point_of
from tests.drawn import all_points, drawn_rules, is_in, keeps_all, looked_at, seeded
from tests.kinds import NOT_CLOCK_NUMBERS, NOT_INTEGERS, NOT_RULES, Calls

NOT_TUPLES_OF_RULES = (
    None, True, 0, "", "ab", [], [(1, 0, (1, 1))], {}, (1, 0, (1, 1)), ((1, 0, (1, 1)), ()), ((1, 0, (1, 1)), None),
    ((1, 0, (1, 1)),) * 101, ((2, 0, (1, 1)),), ((1, 2, (1, 1)),),
) + tuple((rule,) for rule in NOT_RULES)


def is_ring_told(clocks, rules, ring):
    """A plain look: along the ring each rule goes on where the one ahead ends, and 0 is not within the sum."""
    steps = [rules[index] if index >= 0 else (0, -index, (0, 1)) for index in ring]
    if any(-index > clocks for index in ring) or not ring:
        return False
    ends_fit = all(steps[at - 1][1] == step[0] for at, step in enumerate(steps))
    whole = sum(step[2][0] for step in steps)
    return ends_fit and (whole < 0 or (whole == 0 and any(step[2][1] == 0 for step in steps)))


class IsRuleTest(Calls, unittest.TestCase):
    def test_constant(self):
        self.assertEqual(lots.MOST_RULES, 100)

    def test_rules_of_so_many_clocks(self):
        for one in range(6):
            for other in range(6):
                for clocks in range(5):
                    for bound in ((0, 1), (-3, 0), (10 ** 9, 1), (-10 ** 9, 0)):
                        with self.subTest(one=one, other=other, clocks=clocks):
                            let = one != other and one <= clocks and other <= clocks
                            self.assertIs(is_rule(clocks, (one, other, bound)), let)

    def test_numbers_one_beyond_the_bounds(self):
        for number in (10 ** 9 + 1, -10 ** 9 - 1, 10 ** 59):
            for end in (0, 1):
                self.assertIs(is_rule(2, (1, 2, (number, end))), False)

    def test_other_values(self):
        for value in NOT_RULES:
            for clocks in range(5):
                with self.subTest(clocks=clocks):
                    self.assertIs(is_rule(clocks, value), False)

    def test_wrong_clocks(self):
        for value in NOT_CLOCK_NUMBERS:
            self.assert_number_refused(value, is_rule, value, (1, 0, (1, 1)))
            self.assert_number_refused(value, is_rule, value, None)


class LotOrRingTest(Calls, unittest.TestCase):
    def test_no_rules(self):
        for clocks in range(5):
            self.assertEqual(lot_or_ring(clocks, ()), ("lot", everything(clocks)))
        self.assertEqual(lot_or_ring(0, ()), ("lot", (((0, 1),),)))

    def test_either_the_lot_of_just_the_points_or_a_ring(self):
        random = seeded("either or")
        kinds = {"lot": 0, "ring": 0}
        for turn in range(400):
            clocks = turn % 5
            rules = drawn_rules(random, clocks, random.choice((1, 2, 3, 4, 6, 9)))
            kind, found = lot_or_ring(clocks, rules)
            kinds[kind] += 1
            with self.subTest(clocks=clocks, rules=rules):
                if kind == "ring":
                    self.assert_ring(clocks, rules, found)
                else:
                    self.assert_lot(random, clocks, rules, found)
        self.assertGreater(kinds["lot"], 100)
        self.assertGreater(kinds["ring"], 100)

    def assert_ring(self, clocks, rules, ring):
        self.assertTrue(is_ring_told(clocks, rules, ring))
        self.assertIs(is_ring(clocks, rules, ring), True)
        self.assertIsInstance(ring, tuple)
        self.assertLessEqual(len(ring), 100)

    def assert_lot(self, random, clocks, rules, lot):
        self.assertIs(is_lot(lot), True)
        self.assertEqual(len(lot), clocks + 1)
        # A point that keeps all rules shows that there is no ring.
        self.assertTrue(keeps_all(point_of(lot), rules))
        for point in looked_at(random, clocks, (lot,)):
            self.assertIs(is_in(lot, point), keeps_all(point, rules))
            self.assertIs(has_point(lot, point), keeps_all(point, rules))

    def test_each_point_of_a_fine_grid(self):
        random = seeded("fine grid")
        for clocks, most, bottom in ((1, 6, 4), (2, 5, 2), (3, 3, 2)):
            for _ in range(12):
                rules = drawn_rules(random, clocks, 3)
                kind, found = lot_or_ring(clocks, rules)
                kept = [point for point in all_points(clocks, most, bottom) if keeps_all(point, rules)]
                with self.subTest(rules=rules):
                    if kind == "ring":
                        self.assertEqual(kept, [])
                    else:
                        let = [point for point in all_points(clocks, most, bottom) if has_point(found, point)]
                        self.assertEqual(let, kept)

    def test_the_same_points_are_told_by_one_lot(self):
        self.assertEqual(
            lot_or_ring(2, ((1, 0, (3, 1)), (2, 1, (1, 0)))),
            lot_or_ring(2, ((2, 0, (4, 0)), (2, 1, (1, 0)), (2, 1, (5, 1)), (1, 0, (3, 1)), (0, 1, (7, 1)))),
        )

    def test_rules_that_only_a_strict_bound_breaks(self):
        self.assertEqual(lot_or_ring(1, ((1, 0, (2, 1)), (0, 1, (-2, 1)))), ("lot", (((0, 1), (-2, 1)), ((2, 1), (0, 1)))))
        for ends in ((0, 1), (1, 0), (0, 0)):
            rules = ((1, 0, (2, ends[0])), (0, 1, (-2, ends[1])))
            kind, ring = lot_or_ring(1, rules)
            self.assertEqual(kind, "ring")
            self.assert_ring(1, rules, ring)
        self.assertEqual(lot_or_ring(1, ((1, 0, (0, 1)),))[0], "lot")
        self.assertEqual(lot_or_ring(1, ((1, 0, (0, 0)),)), ("ring", lot_or_ring(1, ((1, 0, (0, 0)),))[1]))
        self.assertEqual(lot_or_ring(1, ((1, 0, (0, 0)),))[0], "ring")
        around = ((1, 2, (1, 1)), (2, 3, (-3, 1)), (3, 4, (1, 1)), (4, 1, (1, 1)))
        self.assertEqual(lot_or_ring(4, around)[0], "lot")
        for at in range(4):
            rules = tuple((one, other, (number, 0 if at == to else 1)) for to, (one, other, (number, _)) in enumerate(around))
            kind, ring = lot_or_ring(4, rules)
            self.assertEqual(kind, "ring")
            self.assert_ring(4, rules, ring)
            self.assertEqual(set(ring), {0, 1, 2, 3})

    def test_rings_need_more_than_two_rules(self):
        rules = ((1, 2, (0, 1)), (2, 3, (0, 1)), (3, 1, (0, 0)))
        for left_out in range(3):
            self.assertEqual(lot_or_ring(3, rules[:left_out] + rules[left_out + 1:])[0], "lot")
        kind, ring = lot_or_ring(3, rules)
        self.assertEqual(kind, "ring")
        self.assert_ring(3, rules, ring)

    def test_rings_whose_clocks_have_single_rules_too(self):
        # No single rule but those of the ring is of use: each way along the ring is less than the rule beside it.
        beside = tuple((one, other, (90, 1)) for one in range(5) for other in range(5) if one != other)
        for around in permutations(range(5)):
            ring_of_five = tuple(zip(around, around[1:] + around[:1]))
            rules = beside + tuple((one, other, (-1 if one == 0 else 0, 1)) for one, other in ring_of_five)
            kind, ring = lot_or_ring(4, rules)
            with self.subTest(around=around):
                self.assertEqual(kind, "ring")
                self.assert_ring(4, rules, ring)

    def test_a_hundred_rules(self):
        rules = tuple((1 + at % 3, 0, (100 - at, 1)) for at in range(99)) + ((0, 1, (-4, 0)),)
        kind, ring = lot_or_ring(3, rules)
        self.assertEqual(kind, "ring")
        self.assert_ring(3, rules, ring)
        rules = rules[:99] + ((0, 1, (-4, 1)),)
        self.assertEqual(lot_or_ring(4, rules)[0], "lot")
        self.assertEqual(lot_or_ring(4, rules)[1][1][0], (4, 1))
        self.assertEqual(lot_or_ring(4, rules)[1][0][1], (-4, 1))

    def test_the_greatest_numbers(self):
        most = 10 ** 9
        rules = ((1, 0, (most, 0)), (2, 1, (most, 1)), (3, 2, (most, 1)), (4, 3, (most, 1)), (0, 4, (-most, 0)))
        found = lot_or_ring(4, rules)[1]
        self.assertEqual(found[4][0], (4 * most, 0))
        self.assertEqual(found[0][1], (0, 1))
        self.assertEqual(found[0][3], (0, 0))
        kind, ring = lot_or_ring(4, rules[:4] + ((0, 4, (-most, 1)), (4, 1, (-most, 1))))
        self.assertEqual((kind, is_ring_told(4, rules[:4] + ((0, 4, (-most, 1)), (4, 1, (-most, 1))), ring)), ("ring", True))

    def test_points_of_lots_need_not_be_whole(self):
        thin = lot_or_ring(1, ((1, 0, (1, 0)), (0, 1, (0, 0))))[1]
        self.assertEqual([has_point(thin, (1, (number,))) for number in range(3)], [False] * 3)

    def test_wrong_values(self):
        for value in NOT_CLOCK_NUMBERS:
            self.assert_number_refused(value, lot_or_ring, value, ())
        for value in NOT_TUPLES_OF_RULES:
            self.assert_refused(InvalidOperation, lot_or_ring, 1, value)
        self.assert_refused(InvalidOperation, lot_or_ring, 0, ((1, 0, (1, 1)),))
        self.assert_refused(InvalidOperation, lot_or_ring, 3, ((4, 0, (1, 1)),))

    def test_the_first_wrong_value_is_told(self):
        self.assert_number_refused(5, lot_or_ring, 5, None)
        self.assert_number_refused(True, lot_or_ring, True, ((2, 0, (1, 1)),))


class IsRingTest(Calls, unittest.TestCase):
    RULES = ((1, 0, (1, 0)), (0, 1, (-1, 1)), (1, 2, (-1, 1)), (2, 1, (1, 1)), (2, 0, (-2, 1)), (0, 2, (5, 1)))

    def test_drawn_rings(self):
        random = seeded("rings")
        found = 0
        for _ in range(4000):
            ring = tuple(random.choice((0, 1, 2, 3, 4, 5, -1, -2)) for _ in range(random.randint(1, 4)))
            with self.subTest(ring=ring):
                self.assertIs(is_ring(2, self.RULES, ring), is_ring_told(2, self.RULES, ring))
            found += is_ring_told(2, self.RULES, ring)
        self.assertGreater(found, 50)

    def test_only_the_sum_tells(self):
        self.assertIs(is_ring(1, ((1, 0, (1, 0)), (0, 1, (-1, 1))), (0, 1)), True)
        self.assertIs(is_ring(1, ((1, 0, (1, 0)), (0, 1, (-1, 1))), (1, 0)), True)
        self.assertIs(is_ring(1, ((1, 0, (1, 1)), (0, 1, (-1, 1))), (0, 1)), False)
        self.assertIs(is_ring(1, ((1, 0, (1, 1)), (0, 1, (-2, 1))), (0, 1)), True)
        self.assertIs(is_ring(1, ((1, 0, (2, 0)), (0, 1, (-1, 0))), (0, 1)), False)

    def test_integers_below_nought(self):
        self.assertIs(is_ring(1, ((1, 0, (-1, 1)),), (0, -1)), True)
        self.assertIs(is_ring(1, ((1, 0, (-1, 1)),), (-1, 0)), True)
        self.assertIs(is_ring(1, ((1, 0, (0, 0)),), (-1, 0)), True)
        self.assertIs(is_ring(1, ((1, 0, (0, 1)),), (-1, 0)), False)
        self.assertIs(is_ring(1, ((1, 0, (-1, 1)),), (0, -2)), False)
        self.assertIs(is_ring(2, ((1, 0, (-1, 1)),), (0, -2)), False)
        self.assertIs(is_ring(2, ((1, 2, (-1, 0)), (2, 0, (1, 1))), (-1, 0, 1)), True)
        self.assertIs(is_ring(2, ((1, 2, (-1, 0)), (2, 0, (1, 1))), (0, 1, -1)), True)
        self.assertIs(is_ring(2, ((1, 2, (-1, 0)), (2, 0, (1, 1))), (0, -1, 1)), False)

    def test_one_integer_is_no_ring(self):
        for index in (0, 1, -1):
            self.assertIs(is_ring(1, ((1, 0, (-1, 1)), (0, 1, (-3, 0))), (index,)), False)

    def test_any_length(self):
        rules = ((1, 0, (1, 1)), (0, 1, (-1, 1)), (0, 1, (-1, 0)))
        self.assertIs(is_ring(1, rules, (0, 1) * 50), False)
        self.assertIs(is_ring(1, rules, (0, 1) * 49 + (0, 2)), True)
        self.assertIs(is_ring(1, rules, (0, 1) * 50 + (0, 2)), True)
        self.assertIs(is_ring(1, rules, (0, 1) * 5000 + (0, 2)), True)
        self.assertIs(is_ring(1, rules, (0, 1) * 5000 + (2,)), False)
        self.assertIs(is_ring(1, ((1, 0, (10 ** 9, 1)), (0, 1, (-10 ** 9, 0))), (0, 1) * 500), True)

    def test_the_end_fits_the_beginning(self):
        self.assertIs(is_ring(2, self.RULES, (2, 4)), False)
        self.assertIs(is_ring(2, self.RULES, (2, 4, -1)), True)
        self.assertIs(is_ring(2, self.RULES, (4, -1, 2)), True)
        self.assertIs(is_ring(2, self.RULES, (2, -1, 4)), False)

    def test_other_values(self):
        rules = ((1, 0, (-1, 1)), (0, 1, (-3, 0)))
        self.assertIs(is_ring(1, rules, (0, 1)), True)
        others = (None, True, 0, "", "01", (), [], [0, 1], {0: 1}, (0, 2), (2, 1), (0, -2), (-3, 1), ((0, 1),), (0, 1, None))
        for value in others + tuple((0, part) for part in NOT_INTEGERS) + tuple((part, 1) for part in NOT_INTEGERS):
            with self.subTest():
                self.assertIs(is_ring(1, rules, value), False)
        self.assertIs(is_ring(1, rules, (False, True)), False)
        self.assertIs(is_ring(1, rules, (0, True)), False)
        self.assertIs(is_ring(0, (), (0,)), False)
        self.assertIs(is_ring(0, (), ()), False)

    def test_wrong_values(self):
        for value in NOT_CLOCK_NUMBERS:
            self.assert_number_refused(value, is_ring, value, (), (0,))
        for value in NOT_TUPLES_OF_RULES:
            self.assert_refused(InvalidOperation, is_ring, 1, value, (0, 1))
            self.assert_refused(InvalidOperation, is_ring, 1, value, None)

    def test_the_first_wrong_value_is_told(self):
        self.assert_refused(InvalidNumber, is_ring, -1, None, None)
        self.assert_refused(InvalidOperation, is_ring, 1, [], None)


class NotTrueTest(unittest.TestCase):
    """[2.5]: what is not true."""

    def test_a_lot_without_a_point_of_whole_numbers(self):
        self.assertEqual(lot_or_ring(1, ((1, 0, (1, 0)), (0, 1, (0, 0))))[0], "lot")

    def test_lots_without_a_common_point_that_no_rule_of_one_clock_parts(self):
        above = lot_or_ring(2, ((2, 1, (0, 0)),))[1]
        below = lot_or_ring(2, ((1, 2, (0, 0)),))[1]
        self.assertEqual(lot_or_ring(2, ((2, 1, (0, 0)), (1, 2, (0, 0))))[0], "ring")
        for lot in (above, below):
            self.assertTrue(has_point(lot, (1, (7, 8))) or has_point(lot, (1, (8, 7))))


if __name__ == "__main__":
    unittest.main()
