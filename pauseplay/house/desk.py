"""The desk: a machine that is edited, and watches that tell what is won and what is held by it."""

from pauseplay.base.integers import is_whole
from pauseplay.base.points import MOST_CLOCKS
from pauseplay.errors import InvalidName, InvalidNumber, InvalidOperation, InvalidText, NothingToUndo, ParseError
from pauseplay.errors import PlayError, Refused, TooMany, UnknownName
from pauseplay.game.foe import outcome
from pauseplay.game.won import won_or_held
from pauseplay.house.edits import are_changes, first_lost, machine_or_reason
from pauseplay.house.logs import deed_read, entry_read, entry_written, machine_written, rules_read
from pauseplay.machine.machines import MOST_PLACES, Machine, check_machine, check_places, is_place, machine_fault
from pauseplay.machine.machines import wrong_part
from pauseplay.machine.runs import check_standing
from pauseplay.machine.steps import lowest_standing
from pauseplay.texts.words import is_name, number_read

MOST_WATCHES = 8

MOST_DONE = 400


class Desk:
    """A machine that is edited, and watches: all that was done can be undone."""

    def __init__(self, machine):
        check_machine(machine)
        self._first = machine
        self._entries = []
        # Behind each entry the machine, and the watches: (name, goals, standing, how many entries were ahead).
        self._states = [(machine, ())]

    @property
    def machine(self):
        """The machine as it is now."""
        return self._states[-1][0]

    @property
    def done(self):
        """How much can be undone."""
        return len(self._entries)

    @property
    def watches(self):
        """The ascending tuple of the names of the watches."""
        return tuple([watch[0] for watch in self._states[-1][1]])

    def _keep(self, entry, machine, watches):
        """Keep what was done, if it is not too much."""
        if len(self._entries) == MOST_DONE:
            raise TooMany(MOST_DONE)
        self._entries.append(entry)
        self._states.append((machine, watches))

    def _watch_of(self, name):
        """The watch with this name."""
        for watch in self._states[-1][1]:
            if watch[0] == name:
                return watch
        raise UnknownName(name)

    def edit(self, changes):
        """Change the machine."""
        machine, watches = self._states[-1]
        if not are_changes(machine.clocks, changes):
            raise InvalidOperation("an edit is a tuple of 1 to 8 changes")
        edited, reason = machine_or_reason(machine, changes)
        if reason is not None:
            raise Refused(reason)
        lost = first_lost(edited, watches)
        if lost is not None:
            raise Refused(("watched", lost))
        self._keep(("edit", changes), edited, watches)

    def watch(self, name, goals, standing):
        """Watch whether a standing is won for some goals."""
        machine, watches = self._states[-1]
        if not is_name(name):
            raise InvalidName("a name is a string of 1 to 8 letters from a to z")
        check_places(machine, goals)
        check_standing(machine, standing)
        if name in self.watches:
            raise Refused(("watch",))
        if len(watches) == MOST_WATCHES:
            raise TooMany(MOST_WATCHES)
        lowest = lowest_standing(standing)
        further = tuple(sorted(watches + ((name, goals, lowest, len(self._entries)),)))
        self._keep(("watch", name, goals, lowest), machine, further)

    def unwatch(self, name):
        """End a watch."""
        machine, watches = self._states[-1]
        ended = self._watch_of(name)
        self._keep(("unwatch", name), machine, tuple([watch for watch in watches if watch[0] != ended[0]]))

    def answer(self, name):
        """("won", rank) or ("held", number of the last round) for the standing that is watched."""
        _, goals, standing, _ = self._watch_of(name)
        return won_or_held(self.machine, goals, standing)

    def paper(self, name):
        """("won", an own paper), or ("held", a held field) with the standing that is watched."""
        _, goals, standing, _ = self._watch_of(name)
        return outcome(self.machine, goals, standing)

    def changed(self, name):
        """The pair of the answers ahead of the last edit and now."""
        _, goals, standing, begun = self._watch_of(name)
        edits = [at for at, entry in enumerate(self._entries) if entry[0] == "edit" and at > begun]
        if not edits:
            raise Refused(("edit",))
        ahead = self._states[edits[-1]][0]
        return (won_or_held(ahead, goals, standing), won_or_held(self.machine, goals, standing))

    def undo(self, many=1):
        """Take back what was done last."""
        if not (is_whole(many) and many >= 1):
            raise InvalidNumber(many)
        if many > len(self._entries):
            raise NothingToUndo(many)
        self._entries = self._entries[:-many]
        self._states = self._states[:-many]

    def log(self):
        """The text that tells the first machine, and all that was done since."""
        return "\n".join(machine_written(self._first) + [entry_written(entry) for entry in self._entries])

    def twin(self):
        """An equal desk that goes its own ways."""
        other = Desk(self._first)
        other._entries = list(self._entries)
        other._states = list(self._states)
        return other

    def __eq__(self, other):
        return isinstance(other, Desk) and self._first == other._first and self._entries == other._entries


def clocks_read(line):
    """The number of clocks that the first line of a log tells, None if it is no such line."""
    words = line.split(" ")
    clocks = number_read(words[1]) if len(words) == 2 and words[0] == "desk" else None
    return None if clocks is None or clocks > MOST_CLOCKS else clocks


def limits_of_line(clocks, line):
    """The limits that the line of a place tells, None if it is no such line."""
    words = line.split(" ")
    limits = rules_read(words[1]) if len(words) == 2 else None
    return limits if is_place(clocks, limits) else None


def deed_of_line(clocks, line):
    """The deed that the line of a deed tells, None if it is no such line."""
    deed = deed_read(line.split(" ")[1:])
    return None if wrong_part(clocks, MOST_PLACES, deed) is not None else deed


def parts_read(lines, begin, word, read_line, clocks):
    """The tuple of what lines, from one index on, that begin with the word tell."""
    found = []
    while begin + len(found) < len(lines) and lines[begin + len(found)].split(" ")[0] == word:
        at = begin + len(found)
        part = read_line(clocks, lines[at])
        if part is None:
            raise ParseError(at)
        found.append(part)
    return tuple(found)


def do_entry(desk, entry):
    """Do what a line of a log tells."""
    if entry[0] == "edit":
        desk.edit(entry[1])
    elif entry[0] == "watch":
        desk.watch(entry[1], entry[2], entry[3])
    else:
        desk.unwatch(entry[1])


def is_entry_done(desk, line):
    """Do what the line tells; tell whether it can be done."""
    entry = entry_read(line)
    if entry is None:
        return False
    try:
        do_entry(desk, entry)
    except (PlayError, UnknownName, TooMany, Refused):
        return False
    return True


def read_log(text):
    """The desk with this log."""
    if not isinstance(text, str):
        raise InvalidText("a log is a string")
    lines = text.split("\n")
    clocks = clocks_read(lines[0])
    if clocks is None:
        raise ParseError(0)
    places = parts_read(lines, 1, "place", limits_of_line, clocks)
    deeds = parts_read(lines, 1 + len(places), "deed", deed_of_line, clocks)
    begin = 1 + len(places) + len(deeds)
    if machine_fault(clocks, places, deeds) is not None:
        raise ParseError(begin)
    desk = Desk(Machine(clocks, places, deeds))
    for at, line in enumerate(lines[begin:], start=begin):
        if not is_entry_done(desk, line):
            raise ParseError(at)
    return desk
