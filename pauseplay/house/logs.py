"""Lines of the log of a desk, written and read. What cannot be read is told as None.

What was done is told as ("edit", changes), ("watch", name, goals, standing) or ("unwatch", name).
"""

from pauseplay.texts.words import SIGNS, number_read, rule_of, sides_of


def row_written(words):
    """Words parted by commas, or a mark for none."""
    return ",".join(words) if words else "-"


def numbers_written(numbers):
    """Integers parted by commas."""
    return row_written([f"{number}" for number in numbers])


def rules_written(rules):
    """Rules parted by commas."""
    sides = [sides_of(rule) for rule in rules]
    return row_written([f"{clock}{sign}{number}" for clock, sign, number in sides])


def deed_written(deed):
    """The words of a deed."""
    owner, start, goal, rules, back = deed
    return f"{owner} {start} {goal} {rules_written(rules)} {numbers_written(back)}"


def change_written(change):
    """The words of a change."""
    kind, part = change[0], change[1]
    if kind == "place":
        return f"place {rules_written(part)}"
    if kind == "take":
        return f"take {part}"
    if kind == "limits":
        return f"limits {part} {rules_written(change[2])}"
    return f"{kind} {part} {deed_written(change[2])}"


def entry_written(entry):
    """The line for something that was done."""
    if entry[0] == "edit":
        return "edit " + "; ".join([change_written(change) for change in entry[1]])
    if entry[0] == "unwatch":
        return f"unwatch {entry[1]}"
    _, name, goals, (place, (bottom, values)) = entry
    return f"watch {name} {numbers_written(goals)} {place} {bottom} {numbers_written(values)}"


def machine_written(machine):
    """The lines for a machine."""
    places = [f"place {rules_written(limits)}" for limits in machine.places]
    deeds = [f"deed {deed_written(deed)}" for deed in machine.deeds]
    return [f"desk {machine.clocks}"] + places + deeds


def row_read(word):
    """The list of the words that are parted by commas."""
    return [] if word == "-" else word.split(",")


def numbers_read(word):
    """The tuple of the integers that a word tells, None in the place of what is no integer."""
    return tuple([number_read(part) for part in row_read(word)])


def rule_read(word):
    """The rule that a word tells: a clock, a sign and a number, the longer signs being looked for first."""
    for sign, _, _ in SIGNS:
        if sign in word:
            clock, _, number = word.partition(sign)
            told, bound = number_read(clock), number_read(number)
            return None if told is None or bound is None else rule_of(told, sign, bound)
    return None


def rules_read(word):
    """The tuple of the rules that a word tells, None in the place of what is no rule."""
    return tuple([rule_read(part) for part in row_read(word)])


def deed_read(words):
    """The deed that words tell, with None in the place of what cannot be read."""
    if len(words) != 5:
        return None
    owner, start, goal, rules, back = words
    return (owner, number_read(start), number_read(goal), rules_read(rules), numbers_read(back))


def change_read(text):
    """The change that a text tells, with None in the place of what cannot be read."""
    words = text.split(" ")
    kind, many = words[0], len(words)
    if kind == "place" and many == 2:
        return (kind, rules_read(words[1]))
    if kind == "take" and many == 2:
        return (kind, number_read(words[1]))
    if kind == "limits" and many == 3:
        return (kind, number_read(words[1]), rules_read(words[2]))
    if kind in ("deed", "put") and many == 7:
        return (kind, number_read(words[1]), deed_read(words[2:]))
    return None


def entry_read(line):
    """What was done by a line, with None in the place of what cannot be read; None for no such line."""
    kind, _, told = line.partition(" ")
    if kind == "edit":
        return (kind, tuple([change_read(text) for text in told.split("; ")]))
    words = told.split(" ")
    if kind == "unwatch" and len(words) == 1:
        return (kind, words[0])
    if kind == "watch" and len(words) == 5:
        name, goals, place, bottom, values = words
        standing = (number_read(place), (number_read(bottom), numbers_read(values)))
        return (kind, name, numbers_read(goals), standing)
    return None
