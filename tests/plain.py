"""A plain look at machines: at each rule, each pause and each offer, at one point of each class."""

from fractions import Fraction
from functools import cache
from itertools import product

from tests.drawn import busy_machine, crossings, drawn_standing, is_let, point_showing, seeded, shown_by


def keeps_rules(shown, rules):
    """Whether numbers, nought ahead of them, keep all rules."""
    return all(is_let(bound, shown[one] - shown[other]) for one, other, bound in rules)


def grown(shown, pause):
    """What is shown behind the pause."""
    return (Fraction(0),) + tuple(number + pause for number in shown[1:])


def with_back(shown, back):
    """What is shown when the clocks are set back."""
    return tuple(Fraction(0) if clock in back else number for clock, number in enumerate(shown))


def is_open_at(machine, deed, place, shown):
    """Whether the deed is open."""
    _, start, goal, rules, back = machine.deeds[deed]
    return (
        start == place
        and keeps_rules(shown, machine.places[place])
        and keeps_rules(shown, rules)
        and keeps_rules(with_back(shown, back), machine.places[goal])
    )


def led_to(machine, deed, shown):
    """The place and what is shown behind the deed."""
    return (machine.deeds[deed][2], with_back(shown, machine.deeds[deed][4]))


def moments(machine, shown):
    """Pauses at which something can begin or end, one between each two of them, and one beyond all, ascending."""
    return sorted(crossings([k - number for number in shown[1:] for k in range(machine.most + 2)]))


def let_moments(machine, place, shown):
    """Those of the moments that the limits of the place let."""
    return [pause for pause in moments(machine, shown) if keeps_rules(grown(shown, pause), machine.places[place])]


def plain_class(shown, most):
    """Something equal just for alike points."""
    wholes = tuple(most + 1 if number > most else number // 1 for number in shown[1:])
    rests = {at: number % 1 for at, number in enumerate(shown[1:]) if number <= most}
    ranks = sorted(set(rests.values()) | {0})
    return (wholes, tuple((at, ranks.index(rest)) for at, rest in sorted(rests.items())))


@cache
def class_points(clocks, most):
    """A point of each class, as what is shown with nought ahead, by its class."""
    step = clocks + 1
    found = {}
    for values in product(range((most + 1) * step + 1), repeat=clocks):
        shown = (Fraction(0),) + tuple(Fraction(value, step) for value in values)
        found.setdefault(plain_class(shown, most), shown)
    return found


class Plain:
    """All standings of a machine, one of each class, and where deeds lead at the moments behind each of them."""

    def __init__(self, machine):
        self.machine = machine
        self.led = {}
        self.points = class_points(machine.clocks, machine.most)
        self.standings = {
            (place, told): shown
            for told, shown in self.points.items()
            for place in range(len(machine.places))
            if keeps_rules(shown, machine.places[place])
        }
        self.ways = {at: self.way_of(at[0], shown) for at, shown in self.standings.items()}

    def key(self, place, shown):
        return (place, plain_class(shown, self.machine.most))

    def led_by(self, owner, place, shown):
        """The keys to which open deeds of the owner lead."""
        return [
            self.key(*led_to(self.machine, deed, shown))
            for deed, told in enumerate(self.machine.deeds)
            if told[0] == owner and is_open_at(self.machine, deed, place, shown)
        ]

    def led_at(self, place, shown):
        """Where own deeds and the foe's deeds lead; alike points are asked for once."""
        key = self.key(place, shown)
        if key not in self.led:
            self.led[key] = (self.led_by("own", place, shown), self.led_by("foe", place, shown))
        return self.led[key]

    def way_of(self, place, shown):
        """For each moment, one behind the other, where own deeds and the foe's deeds lead then."""
        later = [grown(shown, pause) for pause in let_moments(self.machine, place, shown)]
        return [self.led_at(place, now) for now in later]

    def is_won_next(self, at, ranks):
        """Whether some offer leads to what has a rank, whatever is answered."""
        for own, foe in self.ways[at]:
            if any(key not in ranks for key in foe):
                return False
            if any(key in ranks for key in own):
                return True
        return False

    def comes_next(self, at, ranks):
        """Whether some pause and deed lead to what has a rank."""
        return any(key in ranks for own, foe in self.ways[at] for key in own + foe)

    def ranks(self, goals, does_come):
        """(ranks of all standings that have one, number of the last round)."""
        ranks = {at: 0 for at in self.standings if at[0] in goals}
        turn = 0
        while True:
            fresh = [at for at in self.standings if at not in ranks and does_come(at, ranks)]
            if not fresh:
                return (ranks, turn)
            turn += 1
            ranks.update({at: turn for at in fresh})

    def rounds_won(self, goals):
        return self.ranks(goals, self.is_won_next)

    def rounds_coming(self, goals):
        return self.ranks(goals, self.comes_next)

    def standing(self, at):
        """The standing of the package for a key."""
        return (at[0], point_showing(self.standings[at][1:]))


def plain_key(machine, standing):
    """The key of a standing of the package."""
    return (standing[0], plain_class(tuple(shown_by(standing[1])), machine.most))


@cache
def drawn_plains(many):
    """Drawn machines of few classes, half of them chains, each with goals and a plain look at it."""
    random = seeded("plains")
    found = []
    for turn in range(many):
        clocks, most = (4, 1) if turn < 6 else ((0, 3), (1, 4), (2, 2), (1, 3), (2, 3), (3, 1))[turn % 6]
        is_chain = turn % 12 < 6
        machine = busy_machine(random, clocks, most, is_chain, (0.6, 0.7, 0.8, 0.9))
        goals = tuple(sorted(random.sample(range(len(machine.places)), random.choice((0, 1, 1, 1, 2)))))
        found.append((machine, (len(machine.places) - 1,) if is_chain else goals, Plain(machine)))
    return found


@cache
def games_won():
    """Drawn machines, goals, plain looks, ranks against the foe, and the numbers of the last rounds."""
    return [(machine, goals, plain, *plain.rounds_won(goals)) for machine, goals, plain in drawn_plains(180)]


@cache
def games_coming():
    """Drawn machines, goals, plain looks, ranks without a foe, and the numbers of the last rounds."""
    return [(machine, goals, plain, *plain.rounds_coming(goals)) for machine, goals, plain in drawn_plains(180)[:72]]


def looked_standings(random, machine, plain, many=8):
    """Standings to look at: some of those that the plain look knows, and drawn ones."""
    keys = random.sample(sorted(plain.standings), min(many, len(plain.standings)))
    return [plain.standing(key) for key in keys] + [drawn_standing(random, machine) for _ in range(many)]
