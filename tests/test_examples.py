"""The examples of the document, each with the very answer that stands there."""

import unittest

from pauseplay.base.bounds import bound_sum, does_keep, is_tighter, turned
from pauseplay.base.points import are_same, later, set_back, shown, simplest
from pauseplay.errors import InvalidOperation


class ExamplesOfStage1Test(unittest.TestCase):
    def test_bounds(self):
        self.assertEqual(
            repr([
                bound_sum((3, 1), (2, 0)), is_tighter((3, 0), (3, 1)), is_tighter(None, (9, 1)), turned((3, 1)),
                does_keep((3, 0), (3, 1)), does_keep((3, 0), (11, 4)),
            ]),
            "[(5, 0), True, False, (-3, 0), False, True]",
        )

    def test_simplest(self):
        self.assertEqual(
            repr([
                simplest((1, 3), 1, (1, 2), 0), simplest((1, 3), 0, (1, 2), 0), simplest((3, 2), 1, None, 0),
                simplest((0, 1), 0, (1, 100), 1),
            ]),
            "[(1, 3), (2, 5), (2, 1), (1, 100)]",
        )

    def test_points(self):
        self.assertEqual(
            repr([
                later((2, (1, 4)), (1, 3)), set_back((2, (1, 4)), (1,)), shown((2, (1, 4)), 2, 1),
                shown((2, (1, 4)), 0, 1), are_same((2, (1, 4)), (4, (2, 8))),
            ]),
            "[(6, (5, 14)), (1, (0, 2)), (3, 2), (-1, 2), True]",
        )

    def test_turned_none(self):
        with self.assertRaises(InvalidOperation):
            turned(None)


if __name__ == "__main__":
    unittest.main()
