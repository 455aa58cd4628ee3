"""Values for the tests: what has another kind than is asked for, and what is nearly right."""

from pauseplay.errors import InvalidNumber, PlayError

GREATEST = 10 ** 60 - 1
TOO_GREAT = 10 ** 60

NOT_INTEGERS = (
    True, False, None, "", "1", (), (1,), [], [1], {}, {1: 1}, TOO_GREAT, -TOO_GREAT, 10 ** 5000,
    InvalidNumber(1), PlayError("1"),
)

# A pair of bad parts is a pair of another kind, not a value that is no pair.
NOT_PAIRS = (
    True, False, 0, 1, -1, TOO_GREAT, "", "ab", (), (1,), (1, 1, 1), (1, 1, 1, 1), [], [1, 1], {}, {1: 1, 2: 1},
    ((1, 1),), ((1, 1), (1, 1)), [(1, 1)], InvalidNumber((1, 1)),
)


def nested(depth):
    """A list in a list, so many deep."""
    value = []
    for _ in range(depth - 1):
        value = [value]
    return value


NOT_FRACTIONS = (
    (None, nested(20), (1, 0), (1, -1), (0, 0), (1, TOO_GREAT), (TOO_GREAT, 1), (-TOO_GREAT, 1))
    + NOT_PAIRS
    + tuple((part, 1) for part in NOT_INTEGERS)
    + tuple((1, part) for part in NOT_INTEGERS)
)

NOT_PAUSES = ((-1, 1), (-1, 2), (-GREATEST, GREATEST)) + NOT_FRACTIONS

NOT_BOUNDS = (
    (nested(20), (1, 2), (1, -1), (0, 2), (TOO_GREAT, 1), (-TOO_GREAT, 0))
    + NOT_PAIRS
    + tuple((part, 1) for part in NOT_INTEGERS)
    + tuple((1, part) for part in NOT_INTEGERS)
)

NOT_MARKS = (2, -1) + NOT_INTEGERS

# Points of no number of clocks.
NOT_POINTS = (
    (None, nested(20), (0, ()), (0, (1,)), (-1, (1,)), (1, (-1,)), (1, (0, 0, 0, -1)), (1, (0, 0, 0, 0, 0)))
    + ((1, [1]), (1, {}), (1, "1"), (1, None), (1, 1), [1, (1,)], (1, (1,), ()), (1, ((1,),)), (1,), ((1,), 1))
    + NOT_PAIRS
    + tuple((part, (1,)) for part in NOT_INTEGERS)
    + tuple((1, (part,)) for part in NOT_INTEGERS)
    + tuple((1, (0, part, 0)) for part in NOT_INTEGERS)
)

NOT_CLOCK_NUMBERS = (-1, 5, GREATEST) + NOT_INTEGERS


class Calls:
    """Assertions about errors, for a test case."""

    def assert_refused(self, error, call, *arguments):
        """The call raises just this error, not one derived from it."""
        with self.subTest(call=call.__name__, at=len(arguments)):
            with self.assertRaises(error) as caught:
                call(*arguments)
            self.assertIs(caught.exception.__class__, error)

    def assert_number_refused(self, given, call, *arguments):
        """The call raises InvalidNumber with the very number."""
        # repr would fail on integers with too many digits, so the values are not shown.
        with self.subTest(call=call.__name__):
            try:
                call(*arguments)
            except InvalidNumber as error:
                self.assertIs(error.__class__, InvalidNumber)
                self.assertTrue(error.given is given or error.given == given)
                self.assertIs(error.given.__class__, given.__class__)
            else:
                self.fail("InvalidNumber was not raised")
