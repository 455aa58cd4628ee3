"""Fewer grids with the same points, for [8.2] to [8.4], [9.2], [10.4] and [12.2]."""

import unittest
from itertools import combinations

from pauseplay.lots.areas import are_equal, area_of, grids_of, less
from pauseplay.lots.joins import joined_grids, joined_into
from pauseplay.lots.lots import everything, is_lot_within, lot_or_ring
from tests.drawn import drawn_area, drawn_lot, seeded


def joint(area):
    """The area with as few lots."""
    return area_of(joined_grids(grids_of(area)))


def spans(*ends):
    """Lots of one clock from a number to another one: (2, 1, 3, 0) is from 2 on, below 3."""
    return tuple(
        lot_or_ring(1, ((0, 1, (-least, in_least)), (1, 0, (most, in_most))))[1] for least, in_least, most, in_most in ends
    )


class JoinsTest(unittest.TestCase):
    def test_the_same_points(self):
        random = seeded("joins")
        fewer = 0
        for turn in range(200):
            clocks = turn % 5
            area = drawn_area(random, clocks, 6)
            found = joint(area)
            fewer += len(found) < len(set(area))
            self.assertIs(are_equal(found, area), True)
            for one, other in combinations(found, 2):
                self.assertIs(is_lot_within(one, other) or is_lot_within(other, one), False)
        self.assertGreater(fewer, 30)

    def test_a_lot_that_was_cut_is_whole_again(self):
        random = seeded("whole again")
        for turn in range(80):
            clocks = 1 + turn % 4
            lot, other = drawn_lot(random, clocks, 2), drawn_lot(random, clocks, 5)
            outside = less((lot,), (other,))
            inside = less((lot,), outside)
            self.assertEqual(joint(outside + inside), (lot,))
            self.assertIs(are_equal(joint(outside), outside), True)

    def test_lots_that_touch(self):
        for area, found in (
            (spans((0, 1, 2, 1), (2, 0, 3, 1)), spans((0, 1, 3, 1))), (spans((0, 1, 2, 0), (2, 1, 3, 1)), spans((0, 1, 3, 1))),
            (spans((0, 1, 2, 1), (2, 1, 3, 0)), spans((0, 1, 3, 0))), (spans((0, 1, 5, 1), (2, 1, 3, 0)), spans((0, 1, 5, 1))),
            (spans((3, 0, 4, 1), (0, 1, 2, 1), (2, 0, 3, 1)), spans((0, 1, 4, 1))),
        ):
            self.assertEqual(joint(area), found)
            self.assertEqual(joint(area[::-1]), found)

    def test_lots_that_leave_a_number_out_stay_apart(self):
        for area in (spans((0, 1, 2, 0), (2, 0, 3, 1)), spans((0, 1, 2, 1), (3, 0, 4, 1)), ()):
            self.assertEqual(sorted(joint(area)), sorted(area))

    def test_lots_side_by_side_that_make_up_no_lot_stay_apart(self):
        low = lot_or_ring(2, ((1, 0, (2, 1)), (2, 0, (1, 1))))[1]
        for rules in (((0, 1, (-2, 0)), (1, 0, (3, 1))), ((0, 1, (-2, 0)), (2, 0, (1, 0))), ((0, 2, (-1, 0)), (1, 0, (1, 1)))):
            other = lot_or_ring(2, rules)[1]
            self.assertEqual(sorted(map(repr, joint((low, other)))), sorted(map(repr, (low, other))))

    def test_what_is_new(self):
        grids = grids_of(spans((0, 1, 1, 1), (3, 1, 4, 1)))
        further = grids_of(spans((1, 0, 2, 1), (7, 1, 8, 1), (3, 1, 4, 0)))
        found, fresh = joined_into(grids, further)
        self.assertEqual(sorted(area_of(found)), sorted(spans((0, 1, 2, 1), (3, 1, 4, 1), (7, 1, 8, 1))))
        self.assertEqual(sorted(area_of(fresh)), sorted(spans((0, 1, 2, 1), (7, 1, 8, 1))))
        self.assertEqual(grids, grids_of(spans((0, 1, 1, 1), (3, 1, 4, 1))))
        self.assertEqual(joined_into(grids, []), (grids, []))

    def test_no_clocks(self):
        self.assertEqual(joint((everything(0),) * 3), (everything(0),))
        self.assertEqual(joint(()), ())


if __name__ == "__main__":
    unittest.main()
