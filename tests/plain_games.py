"""A plain look at papers, held and kept fields, hunts and times: at each deed and each moment behind one point of each class."""

from functools import cache
from types import SimpleNamespace

from pauseplay.game.plays import answers_to
from pauseplay.lots.lots import lot_or_ring, rules_of
from pauseplay.machine.classes import class_of, lot_of_class
from pauseplay.machine.machines import Machine
from tests.drawn import busy_deed, busy_machine, is_in, point_showing, seeded, shown_by
from tests.plain import Plain, drawn_plains, grown, is_open_at, led_to, let_moments


class PlainGame(Plain):
    """As Plain, and for each moment behind a standing its class, and where each deed leads then."""

    def __init__(self, machine):
        self.done = {}
        self.known = {}
        super().__init__(machine)
        self.steps = {at: self.steps_from(*at) for at in self.standings}

    def steps_from(self, place, told):
        shown = self.standings[place, told]
        later = [grown(shown, pause) for pause in let_moments(self.machine, place, shown)]
        return [self.step_at(place, now) for now in later]

    def step_at(self, place, shown):
        """The class, and where each open deed leads, the own ones and the foe's."""
        at = self.key(place, shown)
        if at not in self.done:
            self.done[at] = (at[1], self.done_by("own", place, shown), self.done_by("foe", place, shown))
        return self.done[at]

    def done_by(self, owner, place, shown):
        """Where each open deed of the owner leads, by deeds."""
        return {
            deed: self.key(*led_to(self.machine, deed, shown))
            for deed, told in enumerate(self.machine.deeds)
            if told[0] == owner and is_open_at(self.machine, deed, place, shown)
        }

    def in_lot(self, lot):
        """The classes whose points are in the lot, as far as the one that is looked at tells."""
        if lot not in self.known:
            self.known[lot] = {told for told, shown in self.points.items() if is_in(lot, point_showing(shown[1:]))}
        return self.known[lot]

    def in_field(self, field):
        """The standings that are in the field."""
        return {(place, told) for place, area in enumerate(field) for lot in area for told in self.in_lot(lot)}

    def at_places(self, places):
        return {at for at in self.standings if at[0] in places}

    def field(self, keys):
        """The field of just these standings, a lot for each of them."""
        machine = self.machine
        areas = [[] for _ in machine.places]
        for place, told in sorted(keys):
            point = point_showing(self.points[told][1:])
            areas[place].append(lot_of_class(machine.clocks, machine.most, class_of(point, machine.most)))
        return tuple(tuple(area) for area in areas)

    def is_row(self, goals, gone, row):
        place, lot, deed, target = row
        if place in goals or self.machine.deeds[deed][:2] != ("own", place):
            return False
        if not {(place, told) for told in self.in_lot(lot)} <= set(self.standings):
            return False
        into = self.in_lot(target)
        for told in into:
            if (place, told) not in self.steps or self.steps[place, told][0][1].get(deed) not in gone:
                return False
        return all(self.is_waited_past((place, told), into, gone) for told in self.in_lot(lot))

    def is_waited_past(self, at, into, gone):
        """Whether one can wait into classes, at no moment up to then a foe deed leading out of the gone standings."""
        for told, _, foe in self.steps[at]:
            if any(key not in gone for key in foe.values()):
                return False
            if told in into:
                return True
        return False

    def is_own_paper(self, goals, paper):
        gone = self.at_places(goals)
        for row in paper:
            if not self.is_row(goals, gone, row):
                return False
            gone |= {(row[0], told) for told in self.in_lot(row[1])}
        return True

    def is_held(self, goals, keys):
        """Whether each standing is at no goal, and each offer there has an answer that stays among them."""
        return not any(at[0] in goals or self.can_leave(at, keys) for at in keys)

    def can_leave(self, at, keys):
        for _, own, foe in self.steps[at]:
            if any(key in keys for key in foe.values()):
                return False
            if any(key not in keys for key in own.values()):
                return True
        return False

    def is_safe(self, at, keys):
        """Whether some offer, or waiting on, has no answer that leads out of these standings."""
        for _, own, foe in self.steps[at]:
            if any(key not in keys for key in foe.values()):
                return False
            if any(key in keys for key in own.values()):
                return True
        return True

    def safe_ones(self, bads, keys):
        return {at for at in self.standings if at[0] not in bads and self.is_safe(at, keys)}

    def is_kept(self, bads, keys):
        return keys <= self.safe_ones(bads, keys)

    def kept_and_taken(self, bads):
        """(the standings of the greatest kept field, those that are taken out by one round after the other)."""
        keys, taken = set(self.standings) - self.at_places(bads), []
        while not self.is_kept(bads, keys):
            taken.append(keys - self.safe_ones(bads, keys))
            keys = keys - taken[-1]
        return (keys, taken)

    def is_hunt(self, bads, rounds):
        ground = self.at_places(bads)
        for keys in rounds:
            left = set(self.standings) - ground
            if any(at[0] not in bads and self.is_safe(at, left) for at in keys):
                return False
            ground = ground | keys
        return True


class TimedPlain(Plain):
    """As Plain, with a clock more that tells how much time has passed: nobody is told how a timed machine is made."""

    def __init__(self, machine, goals, most):
        self.goals, self.most = goals, most
        super().__init__(SimpleNamespace(
            clocks=machine.clocks + 1, places=machine.places, deeds=machine.deeds, most=max(machine.most, most),
        ))

    def led_by(self, owner, place, shown):
        found = []
        for deed, told in enumerate(self.machine.deeds):
            if told[0] == owner and is_open_at(self.machine, deed, place, shown):
                if told[2] not in self.goals or shown[-1] <= self.most:
                    found.append(self.key(*led_to(self.machine, deed, shown)))
                elif owner == "foe":
                    found.append("late")
        return found

    def key_of(self, standing, passed):
        """The key of a standing when so much has passed."""
        return self.key(standing[0], tuple(shown_by(standing[1])) + (passed,))


@cache
def drawn_games(many=90):
    """Drawn machines, goals, and plain looks with the deeds."""
    return [(machine, goals, PlainGame(machine)) for machine, goals, plain in drawn_plains(180)[:many] if machine.clocks < 4]


@cache
def bounded_games(many=40):
    """Drawn machines whose places bound all clocks: so points of one class are in the same lots, whatever these say."""
    random = seeded("bounded")
    found = []
    for turn in range(many):
        clocks, most = ((1, 3), (2, 2), (1, 4), (2, 1))[turn % 4]
        many_places = random.randint(3, 4)
        places = tuple(
            tuple((clock, 0, (random.randint(1, most), random.randint(0, 1))) for clock in range(1, clocks + 1))
            for _ in range(many_places)
        )
        deeds = tuple(
            busy_deed(random, clocks, many_places, most, random.choice((0.6, 0.8)), random.random() < 0.7)
            for _ in range(random.randint(2 * many_places, 5 * many_places))
        )
        machine = Machine(clocks, places, deeds)
        found.append((machine, (many_places - 1,), PlainGame(machine)))
    return found


@cache
def timed_games(many=60):
    """Drawn machines, goals, times, plain looks at them, and the ranks of these."""
    random = seeded("timed")
    found = []
    for turn in range(many):
        clocks, most = ((1, 2), (1, 3), (2, 1), (0, 2), (1, 2), (2, 2))[turn % 6]
        if turn % 3 == 2 or clocks == 0:
            machine = busy_machine(random, clocks, most, turn % 4 < 2, (0.6, 0.8, 0.9))
        else:
            machine = rushing_machine(random, clocks, most)
        goals = (len(machine.places) - 1,)
        time = random.randint(0, 3 if clocks == 2 else 5)
        plain = TimedPlain(machine, goals, time)
        found.append((machine, goals, time, plain, plain.rounds_won(goals)[0]))
    return found


def rushing_machine(random, clocks, most):
    """A chain of places that one goes along, waiting for a clock each time; the foe can go ahead of it, or set clocks back."""
    many_places = random.randint(2, 3)
    deeds = []
    for place in range(many_places - 1):
        clock, number = random.randint(1, clocks), random.randint(0, most)
        back = random.choice(((), (), (clock,)))
        deeds.append(("own", place, place + 1, ((0, clock, (-number, random.randint(0, 1))),), back))
        if random.random() < 0.6:
            other = random.randint(1, clocks)
            low = random.randint(0, most)
            window = ((0, other, (-low, random.randint(0, 1))), (other, 0, (random.randint(low, most), 1)))
            deeds.append(("foe", place, random.randrange(many_places), window[:random.choice((1, 2, 2))], random.choice(((), (other,)))))
    random.shuffle(deeds)
    limits = tuple(() if random.random() < 0.7 else ((random.randint(1, clocks), 0, (most, 1)),) for _ in range(many_places))
    return Machine(clocks, limits, tuple(deeds))


def bent_rule(random, rule):
    """The rule with its number, or its mark, one less or more."""
    one, other, (number, end) = rule
    return (one, other, random.choice(((number, 1 - end), (number - 1, end), (number + 1, end))))


def bent_lot(random, lot):
    """The lot with one of its rules bent or left out, or with a further one; None for one without points."""
    rules = list(rules_of(lot))
    index = random.randrange(len(rules))
    if random.random() < 0.3:
        del rules[index]
    else:
        rules[index] = bent_rule(random, rules[index])
    kind, found = lot_or_ring(len(lot) - 1, tuple(rules))
    return found if kind == "lot" else None


def drawn_answer(random, machine, standing, offer):
    """Any answer, at an end of its stretch, between both, or to let the offer."""
    found = [("let",)]
    for deed, stretch in answers_to(machine, standing, offer):
        found.extend([("deed", pause, deed) for pause in pauses_in(stretch)])
    return random.choice(found)


def pauses_in(stretch):
    """Pauses in a stretch: its ends, as far as they belong to it, and one between them, or beyond one."""
    least, least_end, greatest, greatest_end = stretch
    if greatest is None:
        return [least] * least_end + [(least[0] + 7 * least[1], least[1])]
    middle = (least[0] * greatest[1] + greatest[0] * least[1], 2 * least[1] * greatest[1])
    return [least] * least_end + [greatest] * greatest_end + [middle]


def guarded_machine(random, clocks, most):
    """A machine from whose places the foe leads on, to the last one in the end, from some moment on; one can go away ahead of it."""
    many_places = random.randint(3, 4)
    deeds = []
    for place in range(many_places - 1):
        clock, number = random.randint(1, clocks), random.randint(1, most)
        rules = ((0, clock, (-number, random.randint(0, 1))),)
        if random.random() < 0.3:
            rules += ((clock, 0, (random.randint(number, most), 1)),)
        deeds.append(("foe", place, random.choice((place + 1, many_places - 1)), rules, random.choice(((), (), (clock,)))))
        for _ in range(random.randint(1, 2)):
            low = random.randint(0, number)
            window = ((0, clock, (-low, random.randint(0, 1))), (clock, 0, (random.randint(low, most), random.randint(0, 1))))
            back = (clock,) if random.random() < 0.8 else ()
            deeds.append(("own", place, random.randrange(many_places - 1), window[:random.choice((1, 2, 2))], back))
    random.shuffle(deeds)
    limits = tuple(() if random.random() < 0.6 else ((random.randint(1, clocks), 0, (most, 1)),) for _ in range(many_places))
    return Machine(clocks, limits, tuple(deeds))


@cache
def guarded_games(many=90):
    """Drawn machines, bads, and plain looks: guarded ones, and chains in which the foe has most of the deeds."""
    random = seeded("guarded")
    found = []
    for turn in range(many):
        clocks, most = ((1, 3), (2, 2), (1, 4), (2, 1), (1, 2), (3, 1))[turn % 6]
        machine = guarded_machine(random, clocks, most)
        if turn % 12 >= 6:
            machine = busy_machine(random, clocks, most, True, (0.1, 0.2, 0.3))
        found.append((machine, (len(machine.places) - 1,), PlainGame(machine)))
    return found
