"""Texts of machines, of standings and of plays, written and read."""

from math import lcm

from pauseplay.base.exact import lowest_point
from pauseplay.base.integers import is_pair, is_whole_between
from pauseplay.base.points import is_pause
from pauseplay.errors import InvalidName, InvalidOperation, InvalidText, ParseError
from pauseplay.machine.machines import Machine, check_machine
from pauseplay.machine.runs import check_standing
from pauseplay.machine.steps import are_rules_kept
from pauseplay.texts.lines import MachineLines, index_in, is_free_name, lines_written
from pauseplay.texts.words import fraction_read, fraction_written

MOST_TEXT = 20000

MOST_TURNS = 400


def are_names(value, many):
    """Whether the value is a tuple of so many unlike names, none of them a word."""
    if not (isinstance(value, tuple) and len(value) == many and all([is_free_name(name) for name in value])):
        return False
    return len(set(value)) == many


def check_names(machine, names):
    """Raise the error for the first one that is wrong of a machine and its names."""
    check_machine(machine)
    if not (isinstance(names, tuple) and len(names) == 3):
        raise InvalidName("names are a triple of tuples: for clocks, for places and for deeds")
    many = (machine.clocks, len(machine.places), len(machine.deeds))
    if not all([are_names(told, count) for told, count in zip(names, many)]):
        raise InvalidName("each clock, place and deed has a name, unlike those beside it, and no word")


def is_plain(text):
    """Whether all signs of the text are printable ASCII ones and newlines."""
    return all([" " <= sign <= "~" or sign == "\n" for sign in text])


def check_text(text):
    """Raise InvalidText unless this is a string of at most 20000 printable ASCII signs and newlines."""
    if not (isinstance(text, str) and len(text) <= MOST_TEXT and is_plain(text)):
        raise InvalidText("a text is a string of at most 20000 printable ASCII signs and newlines")


def text_of(machine, names):
    """The text of the machine."""
    check_names(machine, names)
    return "".join([" ".join(words) + "\n" for words in lines_written(machine, names)])


def read_machine(text):
    """The pair of the machine and of the names with this text."""
    check_text(text)
    lines = text.split("\n")
    told = MachineLines()
    for index, line in enumerate(lines[:-1]):
        if not told.take(line.split(" ")):
            raise ParseError(index)
    if lines[-1] != "" or not told.place_names:
        raise ParseError(len(lines) - 1)
    names = (tuple(told.clock_names), tuple(told.place_names), tuple(told.deed_names))
    return (Machine(len(told.clock_names), tuple(told.all_limits), tuple(told.all_told)), names)


def standing_text(machine, names, standing):
    """The text of the standing."""
    check_names(machine, names)
    check_standing(machine, standing)
    place, (bottom, values) = standing
    return " ".join([names[1][place]] + [fraction_written(value, bottom) for value in values])


def standing_read(machine, names, text):
    """The standing that the text tells, None if it tells none."""
    words = text.split(" ")
    place = index_in(names[1], words[0])
    shown = [fraction_read(word) for word in words[1:]]
    if place is None or None in shown or len(shown) != machine.clocks:
        return None
    bottom = 1
    for _, under in shown:
        bottom = lcm(bottom, under)
    point = lowest_point(bottom, [top * (bottom // under) for top, under in shown])
    return (place, point) if are_rules_kept(point, machine.places[place]) else None


def read_standing(machine, names, text):
    """The standing with this text."""
    check_names(machine, names)
    standing = standing_read(machine, names, text) if isinstance(text, str) else None
    if standing is None:
        raise InvalidText("the text of a standing of the machine is asked for")
    return standing


def is_done_told(machine, owner, pause, deed):
    """Whether these are a pause and the index of a deed of the owner."""
    return is_pause(pause) and is_whole_between(deed, 0, len(machine.deeds) - 1) and machine.deeds[deed][0] == owner


def is_turn_told(machine, value):
    """Whether the value is a pair of what could be an offer and an answer somewhere."""
    if not (is_pair(value) and is_pair(value[0])):
        return False
    (pause, deed), answer = value
    if not is_done_told(machine, "own", pause, deed):
        return False
    if answer == ("let",):
        return True
    if not (isinstance(answer, tuple) and len(answer) == 3 and answer[0] == "deed"):
        return False
    return is_done_told(machine, "foe", answer[1], answer[2])


def turn_written(deed_names, turn):
    """The line for a turn."""
    (pause, deed), answer = turn
    words = ["after", fraction_written(pause[0], pause[1]), deed_names[deed]]
    if answer == ("let",):
        words.append("let")
    else:
        _, (top, bottom), foe_deed = answer
        words.extend(["but", fraction_written(top, bottom), deed_names[foe_deed]])
    return " ".join(words) + "\n"


def are_turns_told(machine, value):
    """Whether the value is a tuple of at most 400 such pairs."""
    if not (isinstance(value, tuple) and len(value) <= MOST_TURNS):
        return False
    return all([is_turn_told(machine, turn) for turn in value])


def play_text(machine, names, turns):
    """The text of the turns of a play."""
    check_names(machine, names)
    if not are_turns_told(machine, turns):
        raise InvalidOperation("the turns are not a tuple of at most 400 pairs of an offer and an answer")
    return "".join([turn_written(names[2], turn) for turn in turns])


def turn_read(deed_names, words):
    """The turn that the words of a line tell, with None in the place of what cannot be read; None for no such line."""
    if len(words) == 4 and words[0] == "after" and words[3] == "let":
        return ((fraction_read(words[1]), index_in(deed_names, words[2])), ("let",))
    if len(words) == 6 and words[0] == "after" and words[3] == "but":
        answer = ("deed", fraction_read(words[4]), index_in(deed_names, words[5]))
        return ((fraction_read(words[1]), index_in(deed_names, words[2])), answer)
    return None


def read_play(machine, names, text):
    """The turns of a play with this text."""
    check_names(machine, names)
    check_text(text)
    lines = text.split("\n")
    turns = []
    for index, line in enumerate(lines[:-1]):
        turn = turn_read(names[2], line.split(" "))
        if index >= MOST_TURNS or not is_turn_told(machine, turn):
            raise ParseError(index)
        turns.append(turn)
    if lines[-1] != "":
        raise ParseError(len(turns))
    return tuple(turns)
