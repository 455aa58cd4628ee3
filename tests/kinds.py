"""Values for the tests: what has another kind than is asked for, and what is nearly right."""

from pauseplay.errors import InvalidNumber, PlayError, Refused, TooMany
from pauseplay.machine.machines import Machine

GREATEST = 10 ** 60 - 1
TOO_GREAT = 10 ** 60

NOT_INTEGERS = (
    True, False, None, "", "1", (), (1,), [], [1], {}, {1: 1}, TOO_GREAT, -TOO_GREAT, 10 ** 5000,
    InvalidNumber(1), PlayError("1"),
)

# A pair of bad parts is a pair of another kind, not a value that is no pair.
NOT_PAIRS = (
    True, False, 0, 1, -1, TOO_GREAT, "", "ab", (), (1,), (1, 1, 1), (1, 1, 1, 1), [], [1, 1], {}, {1: 1, 2: 1},
    ((1, 1),), ((1, 1), (1, 1)), [(1, 1)], InvalidNumber((1, 1)),
)


def nested(depth):
    """A list in a list, so many deep."""
    value = []
    for _ in range(depth - 1):
        value = [value]
    return value


NOT_FRACTIONS = (
    (None, nested(20), (1, 0), (1, -1), (0, 0), (1, TOO_GREAT), (TOO_GREAT, 1), (-TOO_GREAT, 1))
    + NOT_PAIRS
    + tuple((part, 1) for part in NOT_INTEGERS)
    + tuple((1, part) for part in NOT_INTEGERS)
)

NOT_PAUSES = ((-1, 1), (-1, 2), (-GREATEST, GREATEST)) + NOT_FRACTIONS

NOT_BOUNDS = (
    (nested(20), (1, 2), (1, -1), (0, 2), (TOO_GREAT, 1), (-TOO_GREAT, 0))
    + NOT_PAIRS
    + tuple((part, 1) for part in NOT_INTEGERS)
    + tuple((1, part) for part in NOT_INTEGERS)
)

NOT_MARKS = (2, -1) + NOT_INTEGERS

# Points of no number of clocks.
NOT_POINTS = (
    (None, nested(20), (0, ()), (0, (1,)), (-1, (1,)), (1, (-1,)), (1, (0, 0, 0, -1)), (1, (0, 0, 0, 0, 0)))
    + ((1, [1]), (1, {}), (1, "1"), (1, None), (1, 1), [1, (1,)], (1, (1,), ()), (1, ((1,),)), (1,), ((1,), 1))
    + NOT_PAIRS
    + tuple((part, (1,)) for part in NOT_INTEGERS)
    + tuple((1, (part,)) for part in NOT_INTEGERS)
    + tuple((1, (0, part, 0)) for part in NOT_INTEGERS)
)

NOT_CLOCK_NUMBERS = (-1, 5, GREATEST) + NOT_INTEGERS

# Rules of no number of clocks.
NOT_RULES = (
    (None, nested(20), (), (1, 0), (1, 0, (1, 1), 0), [1, 0, (1, 1)], (1, 0, [1, 1]), {1: 0}, "10", 1, True)
    + ((1, 1, (1, 1)), (0, 0, (0, 1)), (-1, 0, (1, 1)), (0, -1, (1, 1)), (5, 0, (1, 1)), (0, 5, (1, 1)))
    + ((1, 0, (10 ** 9 + 1, 1)), (1, 0, (-10 ** 9 - 1, 0)), (0, 1, (10 ** 9 + 1, 0)), (0, 1, (-10 ** 9 - 1, 1)))
    + tuple((part, 0, (1, 1)) for part in NOT_INTEGERS)
    + tuple((1, part, (1, 1)) for part in NOT_INTEGERS)
    + tuple((1, 0, part) for part in NOT_BOUNDS + (None,))
)

# Lots of no number of clocks: of another kind or form, with an entry that is no bound, or not tight.
NOT_LOTS = (
    (None, True, 0, 1, "", "ab", (), ((),), [], {}, nested(20), ((0, 1),), (((0, 1),), ()), [((0, 1),)], ([(0, 1)],))
    + ((((0, 0),),), (((1, 1),),), ((None,),), (((-1, 1),),), (([0, 1],),), (((False, True),),), (((0, True),),))
    + (((((0, 1),),),), (((0, 1), (0, 1)),), (((0, 1),), ((0, 1),)), (((0, 1), (0, 1)), (None,)))
    + ((((0, 1), (0, 1)), (None, (0, 0))), (((0, 1), (0, 1)), (None, None)), (((0, 1), None), (None, (0, 1))))
    + ((((0, 1), (1, 0)), (None, (0, 1))), (((0, 1), (1, 1)), ((2, 1), (0, 1))), (((0, 1), (0, 1)), ((-1, 1), (0, 1))))
    + ((((0, 1), (0, 0)), ((0, 1), (0, 1))), (((0, 1), (-2, 1)), ((2, 0), (0, 1))), (((0, 1), (-2, 1)), ((1, 1), (0, 1))))
    # Of two clocks: an entry that the others would make less.
    + ((((0, 1),) * 3, ((3, 1), (0, 1), (4, 1)), (None, None, (0, 1))),)
    + ((((0, 1),) * 3, (None, (0, 1), (1, 1)), ((3, 1), None, (0, 1))),)
    + ((((0, 1), (0, 1), (0, 1)), (None, (0, 1), None), (None, (-1, 1), (0, 1))),)
    + ((((0, 1), (0, 1), (0, 1)), (None, (0, 1), (1, 1)), (None, (-1, 0), (0, 1))),)
    + (tuple(tuple((0, 1) for _ in range(6)) for _ in range(6)),)
    + tuple((((0, 1), (0, 1)), (part, (0, 1))) for part in NOT_BOUNDS)
    + tuple((((0, 1), part), (None, (0, 1))) for part in NOT_BOUNDS)
    + tuple(((part,),) for part in NOT_BOUNDS)
    + tuple((((0, 1), (0, 1)), part) for part in NOT_PAIRS)
)

# Areas of no number of clocks.
NOT_AREAS = (
    (None, True, 0, "", "ab", [], {}, nested(20), [(((0, 1),),)], ((),), ((0, 1),), (((0, 1),),), (((0, 1),), ()))
    + ((((((0, 1),),),),), ((((0, 1),),), (((0, 1), (0, 1)), (None, (0, 1)))), ((((0, 1),),),) * 5001)
    + tuple((lot,) for lot in NOT_LOTS)
    + tuple(((((0, 1), (0, 1)), (None, (0, 1))), lot) for lot in NOT_LOTS)
    + tuple((lot, (((0, 1), (0, 1)), (None, (0, 1)))) for lot in NOT_LOTS)
)

NOT_MACHINES = NOT_INTEGERS + NOT_PAIRS + (5, (1, ((),), ()), (1, ((),), (), 0), [1, [[]], []])


LAMP = Machine(
    2, (((1, 0, (3, 1)), (2, 0, (5, 0))), (), ((2, 0, (2, 0)),)),
    (
        ("own", 0, 1, ((0, 1, (-1, 1)), (2, 0, (4, 0))), (2,)), ("foe", 0, 2, ((0, 2, (-1, 0)),), (2,)),
        ("own", 1, 2, ((0, 1, (-4, 0)),), ()), ("foe", 2, 0, (), (1,)),
    ),
)

NOT_INDICES_OF_PLACES = (-1, 3, 12, GREATEST) + NOT_INTEGERS

NOT_INDICES_OF_DEEDS = (-1, 4, 40, GREATEST) + NOT_INTEGERS

# Standings of no place of LAMP: of another kind or form, of other clocks, or beyond the limits.
NOT_STANDINGS = (
    (None, nested(20), (0,), (0, (1, (0, 0)), 0), [0, (1, (0, 0))], (0, [1, (0, 0)]), {0: (1, (0, 0))}, (1, (0, 0)), LAMP)
    + tuple((place, (1, (0, 0))) for place in NOT_INDICES_OF_PLACES)
    + tuple((1, point) for point in NOT_POINTS + ((1, ()), (1, (0,)), (1, (0, 0, 0)), (1, (0, 0, 0, 0)), LAMP))
    + ((0, (1, (4, 0))), (0, (2, (7, 0))), (0, (1, (0, 5))), (0, (3, (0, 15))), (2, (1, (9, 2))), (2, (GREATEST, (0, GREATEST * 2))))
    + ((0, (GREATEST, (GREATEST, TOO_GREAT))), (1, (TOO_GREAT, (1, 1))), (1, (1, (TOO_GREAT, 1))))
    + NOT_PAIRS
)

NOT_PLACES = (
    (None, nested(20), "", "ab", 0, 1, True, [], [0], {}, {0: 1}, (1, 0), (0, 0), (0, 1, 1), (3,), (-1,), (0, 3), (0, 1, 2, 3))
    + ((0, (1,)), ((0,),), LAMP)
    + tuple((value,) for value in NOT_INTEGERS)
    + tuple((0, value) for value in NOT_INTEGERS)
)

# Areas of two clocks, and areas that are none.
NOT_AREAS_OF_TWO = NOT_AREAS + (
    ((((0, 1),),),), ((((0, 1), (0, 1)), (None, (0, 1))),), ((((0, 1),) * 4,) * 4,), (((((0, 1),) * 3,) * 3), ((0, 1),)),
)

ALL_OF_TWO = (((0, 1), (0, 1), (0, 1)), (None, (0, 1), None), (None, None, (0, 1)))

NOUGHT_OF_TWO = (((0, 1),) * 3,) * 3

# Fields of another machine than LAMP, and fields that are none.
NOT_FIELDS = (
    (None, nested(20), "", "abc", 0, True, (), ((),), ((), ()), ((), (), (), ()), [(), (), ()], {0: (), 1: (), 2: ()}, LAMP)
    + ((((ALL_OF_TWO,), (), ())), ((), (), (ALL_OF_TWO,)), ((NOUGHT_OF_TWO, ALL_OF_TWO), (), ()), ((), (NOUGHT_OF_TWO,) * 5001, ()))
    + ((([NOUGHT_OF_TWO], (), ())), ((), NOUGHT_OF_TWO, ()), (NOUGHT_OF_TWO, NOUGHT_OF_TWO, NOUGHT_OF_TWO))
    + tuple(((), area, ()) for area in NOT_AREAS_OF_TWO)
)

NOT_MOST = (-1, 21, GREATEST) + NOT_INTEGERS

# Classes of no points with two clocks, for 2 as the most.
NOT_CLASSES = (
    (None, nested(20), 0, True, "", "abc", (), ((0, 0), (1, 2)), ((0, 0), (1, 2), (), ()), [(0, 0), (1, 2), ()], {}, LAMP)
    + (([0, 0], (1, 2), ()), ((0, 0), [1, 2], ()), ((0, 0), (1, 2), []), ((0, 0), (1,), ([2],)), ((0, 0), (1,), [(2,)]))
    + (((0,), (1,), ()), ((0, 0, 0), (1, 2, 3), ()), ((), (), ()), ((0, 4), (1,), ()), ((0, -1), (1, 2), ()), ("00", (1, 2), ()))
    + (((0, 0), (1,), ()), ((0, 0), (), ()), ((0, 0), (2, 1), ()), ((0, 0), (1, 1, 2), ()), ((0, 0), (1, 2, 3), ()), ((0, 0), (0, 1, 2), ()))
    + (((0, 3), (1, 2), ()), ((0, 3), (1,), ((2,),)), ((0, 2), (1,), ((2,),)), ((2, 0), (), ((1,), (2,))), ((2, 0), (), ((1, 2),)))
    + (((0, 0), (1, 2), ((),)), ((0, 0), (1,), ((2,), ())), ((0, 0), (1,), ((), (2,))), ((0, 0), (1, 2), ((2,),)), ((0, 0), (2,), ((2,),)))
    + (((0, 0), (), ((2, 1),)), ((0, 0), (), ((1, 1, 2),)), ((0, 0), (), ((1,), (1, 2))), ((0, 0), (), ((1, 2), (2,))), ((0, 0), (), (1, 2)))
    + (((0, 0), (), ((1,), (3,))), ((0, 0), (), ((0,), (1, 2))), ((3, 3), (), ((1,),)), ((3, 3), (1,), ()), ((0, 0), 1, ((2,),)), (0, (1, 2), ()))
    + tuple(((0, part), (1, 2), ()) for part in NOT_INTEGERS)
    + tuple(((0, 0), (1, part), ()) for part in NOT_INTEGERS)
    + tuple(((0, 0), (1,), ((part,),)) for part in NOT_INTEGERS)
    + tuple(((0, 0), (1,), part) for part in NOT_INTEGERS if part != ())
    + (((False, 1), (1, 2), ()), ((0, 0), (True, 2), ()), ((0, 0), (), ((True,), (2,))))
)

# Ascending tuples of clocks are asked for, of a point with two clocks.
NOT_BACK = (
    (None, nested(20), "", "12", 0, 1, True, [], [1], {}, {1: 1}, (0,), (3,), (-1,), (1, 1), (2, 1), (1, 2, 3), ((1,),), LAMP)
    + tuple((part,) for part in NOT_INTEGERS)
    + tuple((1, part) for part in NOT_INTEGERS)
)

# Moves of LAMP, and moves that are none.
NOT_MOVES = (
    (None, nested(20), "", "ab", 0, True, [], [((0, 1), 0)], {}, ((0, 1), 0), (((0, 1), 0, 0),), ([(0, 1), 0],), LAMP)
    + ((((0, 1), 0),) * 401, (((0, 1), 0), None))
    + tuple(((pause, 0),) for pause in NOT_PAUSES)
    + tuple((((0, 1), deed),) for deed in NOT_INDICES_OF_DEEDS)
    + tuple((part,) for part in NOT_PAIRS)
)


# In the place of the wrong values of a parameter for which nothing is raised.
ANY = (None, (), None)


class Calls:
    """Assertions about errors, for a test case."""

    def assert_refused(self, error, call, *arguments):
        """The call raises just this error, not one derived from it."""
        with self.subTest(call=call.__name__, at=len(arguments)):
            with self.assertRaises(error) as caught:
                call(*arguments)
            self.assertIs(caught.exception.__class__, error)

    def assert_number_refused(self, given, call, *arguments):
        """The call raises InvalidNumber with the very number."""
        # repr would fail on integers with too many digits, so the values are not shown.
        with self.subTest(call=call.__name__):
            try:
                call(*arguments)
            except InvalidNumber as error:
                self.assertIs(error.__class__, InvalidNumber)
                self.assertTrue(error.given is given or error.given == given)
                self.assertIs(error.given.__class__, given.__class__)
            else:
                self.fail("InvalidNumber was not raised")

    def assert_kept(self, error, name, kept, call, *arguments):
        """The call raises just this error, which keeps just this value under the name."""
        with self.subTest(call=call.__name__):
            with self.assertRaises(error) as caught:
                call(*arguments)
            self.assertIs(caught.exception.__class__, error)
            self.assertEqual(repr(getattr(caught.exception, name)), repr(kept))

    def assert_reason(self, reason, call, *arguments):
        """The call raises Refused with the reason."""
        self.assert_kept(Refused, "reason", reason, call, *arguments)

    def assert_too_many(self, limit, call, *arguments):
        """The call raises TooMany with the limit."""
        self.assert_kept(TooMany, "limit", limit, call, *arguments)

    def assert_wrong(self, value, error, call, arguments):
        """The call raises the error, with the value if that is kept."""
        if error is InvalidNumber:
            self.assert_number_refused(value, call, *arguments)
        else:
            self.assert_refused(error, call, *arguments)

    def look_at(self, call, parameters):
        """Each parameter, told as (good value, wrong values, error), is made wrong alone, and with all behind it wrong."""
        good = [parameter[0] for parameter in parameters]
        call(*good)
        for at, (_, values, error) in enumerate(parameters):
            further = [None if each is ANY else each[1][0] for each in parameters[at + 1:]]
            for value in values:
                self.assert_wrong(value, error, call, good[:at] + [value] + good[at + 1:])
                self.assert_wrong(value, error, call, good[:at] + [value] + further)
