"""Drawn rules, lots, points and machines, and plain looks at each bound, as a person would take them."""

from fractions import Fraction
from itertools import combinations, product
from math import lcm
from random import Random

from pauseplay.lots.lots import lot_or_ring, point_of, rules_of
from pauseplay.machine.machines import Machine

REST = tuple(Fraction(number) for number in ("0", "1/2", "1/3", "2/3", "1/4", "3/4", "1/7", "97/100"))


def shown_by(point):
    """What nought and the clocks show, as fractions of Python's."""
    return [Fraction(0)] + [Fraction(value, point[0]) for value in point[1]]


def point_showing(shown):
    """The point in lowest terms whose clocks show these numbers, nought left out."""
    bottom = lcm(*(number.denominator for number in shown))
    return (bottom, tuple(int(number * bottom) for number in shown))


def is_let(bound, number):
    """Whether the number is within the bound."""
    return bound is None or number < bound[0] or (number == bound[0] and bound[1] == 1)


def keeps(point, rule):
    """Whether the point keeps the rule."""
    shown = shown_by(point)
    return is_let(rule[2], shown[rule[0]] - shown[rule[1]])


def keeps_all(point, rules):
    """Whether the point keeps all rules."""
    return all(keeps(point, rule) for rule in rules)


def is_in(lot, point):
    """Whether the point is within each bound of the lot."""
    shown = shown_by(point)
    return all(
        is_let(bound, shown[at] - shown[to]) for at, row in enumerate(lot) for to, bound in enumerate(row)
    )


def is_in_some(area, point):
    """Whether the point is in some lot of the area."""
    return any(is_in(lot, point) for lot in area)


def drawn_rule(random, clocks, most=4):
    """Any rule, more often one of a single clock."""
    one, other = random.sample(range(clocks + 1), 2)
    if random.random() < 0.6:
        one, other = random.choice(((0, max(one, other)), (max(one, other), 0)))
    number = random.randint(-most, most)
    if other == 0:
        number = random.randint(0, most + 1)
    if one == 0:
        number = -random.randint(0, most - 1)
    return (one, other, (number, random.randint(0, 1)))


def drawn_rules(random, clocks, many):
    """So many rules, () without clocks."""
    return tuple(drawn_rule(random, clocks) for _ in range(many if clocks else 0))


def drawn_lot(random, clocks, many=4):
    """The lot of drawn rules that some point keeps."""
    while True:
        kind, found = lot_or_ring(clocks, drawn_rules(random, clocks, random.randint(0, many)))
        if kind == "lot":
            return found


def drawn_area(random, clocks, many=4):
    """An area of drawn lots, perhaps ()."""
    return tuple(drawn_lot(random, clocks) for _ in range(random.randint(0, many)))


def drawn_point(random, clocks, most=6):
    """A point, not always in lowest terms."""
    shown = [Fraction(random.randint(0, most)) + random.choice(REST) for _ in range(clocks)]
    if random.random() < 0.4:
        # Clocks with one rest, or all with whole numbers, stand at the ends of bounds.
        shown = [number - number % 1 for number in shown]
    bottom, values = point_showing(shown)
    times = random.choice((1, 1, 2, 3))
    return (bottom * times, tuple(value * times for value in values))


def near_points(point, steps=(Fraction(1, 8), Fraction(1, 2), Fraction(1))):
    """The point, and those beside it: one clock or all clocks a step less or more."""
    shown = shown_by(point)[1:]
    found = [list(shown)]
    for step in steps:
        for sign in (-1, 1):
            found.append([number + sign * step for number in shown])
            for at in range(len(shown)):
                found.append([number + sign * step if at == to else number for to, number in enumerate(shown)])
    return [point_showing(numbers) for numbers in found if all(number >= 0 for number in numbers)]


def end_points(lot):
    """Points of the lot, or just beside it, at which some of its bounds are come to."""
    shown = shown_by(point_of(lot))
    found = []
    for at, row in enumerate(lot):
        for to, bound in enumerate(row):
            if at != to and bound is not None:
                moved = list(shown)
                if at > 0:
                    moved[at] = moved[to] + bound[0]
                else:
                    moved[to] = Fraction(-bound[0])
                if all(number >= 0 for number in moved):
                    found.append(point_showing(moved[1:]))
    return found


def looked_at(random, clocks, lots, many=12):
    """Points to look at: drawn ones, and points in the lots, near their ends and beside them."""
    points = [drawn_point(random, clocks) for _ in range(many)]
    for lot in lots:
        points.extend(near_points(point_of(lot)))
        ends = end_points(lot)
        for end in random.sample(ends, min(3, len(ends))):
            points.extend(near_points(end, (Fraction(1, 8),)))
    return points


def crossings(ends):
    """Numbers from nought on: the ends, one between each two, and one beyond all."""
    ends = sorted({end for end in ends if end >= 0} | {Fraction(0)})
    return ends + [(one + other) / 2 for one, other in zip(ends, ends[1:])] + [ends[-1] + 1]


def subsets(clocks):
    """All ascending tuples of the clocks 1 to n."""
    return [chosen for size in range(clocks + 1) for chosen in combinations(range(1, clocks + 1), size)]


def drawn_limits(random, clocks, most=4):
    """The limits of a place."""
    found = []
    for clock in range(1, clocks + 1):
        if random.random() < 0.4:
            found.append((clock, 0, random.choice([(k, e) for k in range(most + 1) for e in (0, 1)][1:])))
    return tuple(found)


def drawn_deed(random, clocks, many_places, most=4):
    """A deed."""
    rules = []
    for side in (0, 1):
        for clock in range(1, clocks + 1):
            if random.random() < 0.4:
                number, end = random.randint(0, most), random.randint(0, 1)
                rules.append((0, clock, (-number, end)) if side == 0 else (clock, 0, (number, end)))
    back = random.choice(subsets(clocks))
    ends = (random.randrange(many_places), random.randrange(many_places))
    return (random.choice(("own", "foe")), *ends, tuple(rules), back)


def drawn_machine(random, clocks=None):
    """A machine."""
    clocks = random.randint(0, 4) if clocks is None else clocks
    places = tuple(drawn_limits(random, clocks) for _ in range(random.randint(1, 4)))
    deeds = tuple(drawn_deed(random, clocks, len(places)) for _ in range(random.randint(0, 6)))
    return Machine(clocks, places, deeds)


def drawn_window(random, clock, most):
    """Rules of a deed for one clock: a lower and an upper one near each other, or one of them."""
    low = random.randint(0, most)
    high = min(most, low + random.randint(0, 2))
    marks = (1, 1) if low == high else (random.randint(0, 1), random.randint(0, 1))
    below = [(0, clock, (-low, marks[0]))] if random.random() < 0.8 else []
    above = [(clock, 0, (high, marks[1]))] if random.random() < 0.7 else []
    return (below, above)


def busy_deed(random, clocks, many_places, most, own, is_chain):
    """A deed that is mostly open for a while; in a chain it leads to a place beside its start."""
    windows = [drawn_window(random, clock, most) for clock in range(1, clocks + 1) if random.random() < 0.5]
    rules = [rule for below, _ in windows for rule in below] + [rule for _, above in windows for rule in above]
    back = tuple(clock for clock in range(1, clocks + 1) if random.random() < 0.4)
    owner = "own" if random.random() < own else "foe"
    start, goal = random.randrange(many_places), random.randrange(many_places)
    if is_chain:
        goal = min(max(start + random.choice((-1, 0, 1, 1)), 0), many_places - 1)
    return (owner, start, goal, tuple(rules), back)


def busy_limits(random, clocks, most):
    """The limits of a place, none that keep a clock at nought."""
    return tuple(
        (clock, 0, (random.randint(1, most), random.randint(0, 1)))
        for clock in range(1, clocks + 1) if random.random() < 0.5
    )


def busy_machine(random, clocks, most, is_chain=False, owns=(0.5, 0.6, 0.7, 0.8)):
    """A machine with many deeds, so that many rounds and long runs come of it, more so of a chain."""
    many_places = random.randint(4, 5) if is_chain else random.randint(2, 4)
    own = random.choice(owns)
    places = tuple(busy_limits(random, clocks, most) for _ in range(many_places))
    many_deeds = random.randint(3 * many_places if is_chain else many_places, 4 * many_places)
    deeds = tuple(busy_deed(random, clocks, many_places, most, own, is_chain) for _ in range(many_deeds))
    return Machine(clocks, places, deeds)


def drawn_standing(random, machine):
    """A standing: any place, and a point that its limits let, often at the very end of one."""
    place = random.randrange(len(machine.places))
    point = drawn_point(random, machine.clocks, machine.most + 1)
    shown = shown_by(point)[1:]
    for clock, _, (most, end) in machine.places[place]:
        if not is_let((most, end), shown[clock - 1]):
            lower = Fraction(most) if end == 1 and random.random() < 0.5 else Fraction(most) * random.choice(REST)
            shown[clock - 1] = lower if lower < most or end == 1 else Fraction(0)
    return (place, point_showing(shown))


def drawn_field(random, machine, many=3):
    """A field of drawn lots, those parts of them that are within the limits."""
    areas = [drawn_area(random, machine.clocks, many) for _ in machine.places]
    return tuple(
        tuple(lot for lot in (within(lot, place) for lot in area) if lot is not None)
        for area, place in zip(areas, machine.places)
    )


def within(lot, rules):
    """The lot of the points of the lot that keep the rules, too, None if there are none."""
    kind, found = lot_or_ring(len(lot) - 1, rules_of(lot) + rules)
    return found if kind == "lot" else None


def all_points(clocks, most, bottom):
    """All points with this bottom whose clocks show at most so much."""
    return [(bottom, values) for values in product(range(most * bottom + 1), repeat=clocks)]


def seeded(name):
    """A source of numbers that gives the same ones at each run."""
    return Random(name)
