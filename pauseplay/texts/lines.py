"""Lines of the text of a machine, written and read. Nothing is checked here."""

from pauseplay.base.points import MOST_CLOCKS
from pauseplay.machine.machines import MOST_DEEDS, MOST_PLACES, OWNERS, is_place, wrong_part
from pauseplay.texts.words import is_name, number_read, rule_of, sides_of

WORDS = ("clocks", "place", "own", "foe", "back", "let", "after", "but")


def is_free_name(value):
    """Whether the value is a name that is no word."""
    return is_name(value) and value not in WORDS


def rules_written(clock_names, rules):
    """The list of the words for rules."""
    words = []
    for rule in rules:
        clock, sign, number = sides_of(rule)
        words.extend([clock_names[clock - 1], sign, f"{number}"])
    return words


def deed_written(names, name, deed):
    """The list of the words of the line of a deed."""
    clock_names, place_names, _ = names
    owner, start, goal, rules, back = deed
    words = [owner, name, place_names[start], place_names[goal]] + rules_written(clock_names, rules)
    if back:
        words.append("back")
        words.extend([clock_names[clock - 1] for clock in back])
    return words


def lines_written(machine, names):
    """The list of the lines of the text of a machine, words being told one by one."""
    clock_names, place_names, deed_names = names
    places = [["place", name] + rules_written(clock_names, limits) for name, limits in zip(place_names, machine.places)]
    deeds = [deed_written(names, name, deed) for name, deed in zip(deed_names, machine.deeds)]
    return [["clocks", *clock_names]] + places + deeds


def index_in(names, name):
    """The index of the name, None if it is none of these."""
    return names.index(name) if name in names else None


class MachineLines:
    """What the lines of the text of a machine told up to now."""

    def __init__(self):
        self.clock_names = None
        self.place_names = []
        self.all_limits = []
        self.deed_names = []
        self.all_told = []

    def take(self, words):
        """Take the words of the next line; tell whether it can stand there."""
        if self.clock_names is None:
            return self.take_clocks(words)
        if words[0] == "place":
            return self.take_place(words)
        return words[0] in OWNERS and self.take_deed(words)

    def take_clocks(self, words):
        """Take the first line."""
        names = words[1:]
        if words[0] != "clocks" or len(names) > MOST_CLOCKS or not all([is_free_name(name) for name in names]):
            return False
        self.clock_names = names
        return len(set(names)) == len(names)

    def take_place(self, words):
        """Take the line of a place: none behind a deed."""
        if len(words) < 2 or self.deed_names or len(self.place_names) == MOST_PLACES:
            return False
        name, limits = words[1], self.rules_read(words[2:])
        if not is_free_name(name) or name in self.place_names:
            return False
        if limits is None or not is_place(len(self.clock_names), limits):
            return False
        self.place_names.append(name)
        self.all_limits.append(limits)
        return True

    def take_deed(self, words):
        """Take the line of a deed."""
        if len(words) < 4 or len(self.deed_names) == MOST_DEEDS:
            return False
        if not is_free_name(words[1]) or words[1] in self.deed_names:
            return False
        deed = self.deed_read(words)
        if wrong_part(len(self.clock_names), len(self.place_names), deed) is not None:
            return False
        self.deed_names.append(words[1])
        self.all_told.append(deed)
        return True

    def deed_read(self, words):
        """The deed that the words of a line tell, with None in the place of parts that cannot be read."""
        at = words.index("back") if "back" in words else len(words)
        rules, back = self.rules_read(words[4:at]), tuple([self.clock_read(name) for name in words[at + 1:]])
        if len(words) == at + 1:
            # The word is there to tell some clocks.
            back = None
        start, goal = [index_in(self.place_names, name) for name in words[2:4]]
        return (words[0], start, goal, rules, back)

    def clock_read(self, name):
        """The clock with this name, None if there is none."""
        index = index_in(self.clock_names, name)
        return None if index is None else index + 1

    def rules_read(self, words):
        """The tuple of the rules that words tell, three each; None if they cannot be read."""
        if len(words) % 3 != 0:
            return None
        found = []
        for at in range(0, len(words), 3):
            clock, number = self.clock_read(words[at]), number_read(words[at + 2])
            rule = None if clock is None or number is None else rule_of(clock, words[at + 1], number)
            if rule is None:
                return None
            found.append(rule)
        return tuple(found)
