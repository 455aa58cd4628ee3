"""Classes of points: whole parts, and the sequence of the rests, tell which rules points keep, now and later."""

from math import comb

from pauseplay.base.exact import lowest_point
from pauseplay.base.integers import is_ascending, is_whole_between
from pauseplay.base.points import check_clocks, check_point
from pauseplay.errors import InvalidNumber, InvalidOperation, TooMany
from pauseplay.lots.grids import kept_grid, lot_of

MOST_CLASSES = 5000

MOST_WHOLE = 20

# In how many ways 0 to 4 clocks can be put in a row of groups.
WAYS_OF_GROUPS = (1, 1, 3, 13, 75)


def check_most(most):
    """Raise InvalidNumber unless this is an integer from 0 to 20."""
    if not is_whole_between(most, 0, MOST_WHOLE):
        raise InvalidNumber(most)


def class_with(point, most):
    """The class of the point, without a check."""
    bottom, values = point
    wholes, even, rests = [], [], {}
    for clock, value in enumerate(values, start=1):
        whole, rest = divmod(value, bottom)
        if value > most * bottom:
            wholes.append(most + 1)
        else:
            wholes.append(whole)
            if rest == 0:
                even.append(clock)
            else:
                rests.setdefault(rest, []).append(clock)
    groups = tuple([tuple(rests[rest]) for rest in sorted(rests)])
    return (tuple(wholes), tuple(even), groups)


def class_of(point, most):
    """The class of the point."""
    check_point(point)
    check_most(most)
    return class_with(point, most)


def are_alike(one, other, most):
    """Whether two points have one class."""
    check_point(one)
    check_point(other)
    check_most(most)
    if len(one[1]) != len(other[1]):
        raise InvalidOperation("the points have unlike numbers of clocks")
    return class_with(one, most) == class_with(other, most)


def are_wholes(clocks, most, value):
    """Whether the value is a tuple with a whole part for each clock, most + 1 for one above."""
    if not (isinstance(value, tuple) and len(value) == clocks):
        return False
    return all([is_whole_between(whole, 0, most + 1) for whole in value])


def are_groups(clocks, value):
    """Whether the value is a tuple of ascending tuples of clocks, none of them ()."""
    if not isinstance(value, tuple):
        return False
    return all([is_ascending(group, 1, clocks) and group != () for group in value])


def is_class(clocks, most, value):
    """Whether the value is the class of some point."""
    check_clocks(clocks)
    check_most(most)
    if not (isinstance(value, tuple) and len(value) == 3):
        return False
    wholes, even, groups = value
    if not (are_wholes(clocks, most, wholes) and is_ascending(even, 1, clocks) and are_groups(clocks, groups)):
        return False
    with_rest = [clock for group in groups for clock in group]
    if sorted(list(even) + with_rest) != [clock for clock, whole in enumerate(wholes, start=1) if whole <= most]:
        return False
    return all([wholes[clock - 1] < most for clock in with_rest])


def check_class(clocks, most, told):
    """Raise InvalidNumber for clocks or most, then InvalidOperation unless this is a class of such points."""
    if not is_class(clocks, most, told):
        raise InvalidOperation("a class of points of so many clocks is asked for")


def point_in(clocks, most, told):
    """The point of the class whose clocks above show most + 1, and whose groups have rests at equal steps."""
    check_class(clocks, most, told)
    wholes, _, groups = told
    steps = {clock: at for at, group in enumerate(groups, start=1) for clock in group}
    bottom = len(groups) + 1
    return lowest_point(bottom, [whole * bottom + steps.get(clock, 0) for clock, whole in enumerate(wholes, start=1)])


def rules_between(wholes, clock, other, end):
    """The rule that the rest of a clock is below that of another one; with 1 as the end at most as great."""
    return (clock, other, (wholes[clock - 1] - wholes[other - 1], end))


def rules_of_class(most, told):
    """Rules that just the points of the class keep."""
    wholes, even, groups = told
    rules = [(0, clock, (-most, 0)) for clock, whole in enumerate(wholes, start=1) if whole > most]
    for clock in even:
        rules.extend([(clock, 0, (wholes[clock - 1], 1)), (0, clock, (-wholes[clock - 1], 1))])
    for at, group in enumerate(groups):
        for clock in group:
            rules.extend([(clock, 0, (wholes[clock - 1] + 1, 0)), (0, clock, (-wholes[clock - 1], 0))])
            rules.extend([rules_between(wholes, clock, other, 1) for other in group if other != clock])
            rules.extend([rules_between(wholes, clock, other, 0) for later in groups[at + 1:] for other in later])
    return rules


def lot_of_class(clocks, most, told):
    """The lot of just the points of the class."""
    check_class(clocks, most, told)
    return lot_of(kept_grid(clocks, rules_of_class(most, told)))


def class_behind(most, told):
    """The class behind it, None if it is never left; without a check."""
    wholes, even, groups = told
    if even:
        grown = [most + 1 if clock in even and whole == most else whole for clock, whole in enumerate(wholes, start=1)]
        left = tuple([clock for clock in even if wholes[clock - 1] < most])
        return (tuple(grown), (), ((left,) if left else ()) + groups)
    if groups:
        last = groups[-1]
        grown = [whole + 1 if clock in last else whole for clock, whole in enumerate(wholes, start=1)]
        return (tuple(grown), last, groups[:-1])
    return None


def next_class(clocks, most, told):
    """The class behind it, None if it is never left."""
    check_class(clocks, most, told)
    return class_behind(most, told)


def classes_waited(clocks, most, told):
    """The tuple of the class and of all behind it."""
    check_class(clocks, most, told)
    passed = []
    while told is not None:
        passed.append(told)
        told = class_behind(most, told)
    return tuple(passed)


def back_class(clocks, most, told, back):
    """The class behind setting some clocks back."""
    check_class(clocks, most, told)
    if not is_ascending(back, 1, clocks):
        raise InvalidOperation("an ascending tuple of clocks is asked for")
    wholes, even, groups = told
    left = [tuple([clock for clock in group if clock not in back]) for group in groups]
    return (
        tuple([0 if clock in back else whole for clock, whole in enumerate(wholes, start=1)]),
        tuple([clock for clock in range(1, clocks + 1) if clock in back or clock in even]),
        tuple([group for group in left if group]),
    )


def power(number, times):
    """The number so many times multiplied with itself."""
    whole = 1
    for _ in range(times):
        whole = whole * number
    return whole


def how_many(clocks, most):
    """The number of classes."""
    check_clocks(clocks)
    check_most(most)
    whole = 0
    for not_above in range(clocks + 1):
        for with_rest in range(not_above + 1):
            chosen = comb(clocks, not_above) * comb(not_above, with_rest) * WAYS_OF_GROUPS[with_rest]
            whole += chosen * power(most + 1, not_above - with_rest) * power(most, with_rest)
    return whole


def groups_with(groups, clock):
    """The list of all groups that come of these when a later clock is put in one, or in a new one."""
    joint = [groups[:at] + (group + (clock,),) + groups[at + 1:] for at, group in enumerate(groups)]
    return joint + [groups[:at] + ((clock,),) + groups[at:] for at in range(len(groups) + 1)]


def classes_with(told, clock, most):
    """The list of all classes that come of this one with one more clock."""
    wholes, even, groups = told
    found = [((*wholes, most + 1), even, groups)]
    found.extend([((*wholes, whole), (*even, clock), groups) for whole in range(most + 1)])
    more = groups_with(groups, clock)
    found.extend([((*wholes, whole), even, parted) for whole in range(most) for parted in more])
    return found


def all_classes(clocks, most):
    """The ascending tuple of all classes."""
    if how_many(clocks, most) > MOST_CLASSES:
        raise TooMany(MOST_CLASSES)
    found = [((), (), ())]
    for clock in range(1, clocks + 1):
        found = [more for told in found for more in classes_with(told, clock, most)]
    return tuple(sorted(found))
