"""Changes of a machine, and edits: tuples of changes, done one by one and judged as one."""

from pauseplay.base.integers import is_whole_between
from pauseplay.machine.machines import MOST_DEEDS, MOST_PLACES, Machine, is_place, machine_fault, wrong_part
from pauseplay.machine.runs import is_standing

MOST_CHANGES = 8

# For each kind of change what it has behind its name.
PARTS = {
    "deed": ("index", "deed"), "put": ("index", "deed"), "take": ("index",), "limits": ("index", "limits"),
    "place": ("limits",),
}


def is_part(clocks, kind, value):
    """Whether the value is a part of this kind of a change of a machine with so many clocks."""
    if kind == "index":
        return is_whole_between(value, 0, MOST_DEEDS)
    if kind == "deed":
        return wrong_part(clocks, MOST_PLACES, value) is None
    return is_place(clocks, value)


def is_change(clocks, value):
    """Whether the value is a change of some machine of so many clocks."""
    if not (isinstance(value, tuple) and value and isinstance(value[0], str) and value[0] in PARTS):
        return False
    parts = PARTS[value[0]]
    if len(value) != len(parts) + 1:
        return False
    return all([is_part(clocks, kind, part) for kind, part in zip(parts, value[1:])])


def are_changes(clocks, value):
    """Whether the value is a tuple of 1 to 8 changes."""
    if not (isinstance(value, tuple) and 1 <= len(value) <= MOST_CHANGES):
        return False
    return all([is_change(clocks, change) for change in value])


def is_index_there(places, deeds, change):
    """Whether what the change is of is there."""
    kind, index = change[0], change[1]
    if kind == "place":
        return True
    if kind == "limits":
        return index < len(places)
    return index <= len(deeds) if kind == "put" else index < len(deeds)


def parts_changed(places, deeds, change):
    """The pair of the places and the deeds behind the change."""
    kind, part = change[0], change[1]
    if kind == "place":
        return (places + (part,), deeds)
    if kind == "take":
        return (places, deeds[:part] + deeds[part + 1:])
    if kind == "limits":
        return (places[:part] + (change[2],) + places[part + 1:], deeds)
    behind = part if kind == "put" else part + 1
    return (places, deeds[:part] + (change[2],) + deeds[behind:])


def machine_or_reason(machine, changes):
    """The pair (the machine behind the changes, None), or (None, the reason why they cannot be done)."""
    places, deeds = machine.places, machine.deeds
    for at, change in enumerate(changes):
        if not is_index_there(places, deeds, change):
            return (None, ("change", at))
        places, deeds = parts_changed(places, deeds, change)
    fault = machine_fault(machine.clocks, places, deeds)
    if fault is not None:
        return (None, ("machine", fault))
    return (Machine(machine.clocks, places, deeds), None)


def first_lost(machine, watches):
    """The name of the first watch (name, goals, standing, ..) whose standing is none of the machine, None for none."""
    for watch in watches:
        if not is_standing(machine, watch[2]):
            return watch[0]
    return None
