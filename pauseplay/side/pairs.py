"""The machine of two machines side by side. Nothing is checked here.

A deed of both is told by a triple: a deed of the one, a deed of the other one, and the place at
which a machine stays that does nothing; None stands for what there is not.
"""

from pauseplay.machine.machines import Machine


def triples_of(one, other, shared):
    """The list of the triples for the deeds of both machines, in their sequence."""
    firsts, lasts = [first for first, _ in shared], [last for _, last in shared]
    alone = [deed for deed in range(len(one.deeds)) if deed not in firsts]
    beside = [deed for deed in range(len(other.deeds)) if deed not in lasts]
    return (
        [(deed, None, stays) for deed in alone for stays in range(len(other.places))]
        + [(None, deed, stays) for deed in beside for stays in range(len(one.places))]
        + [(first, last, None) for first, last in shared]
    )


def moved_rules(rules, clocks):
    """The rules for clocks that have so many others ahead of them."""
    return tuple([(i + clocks if i else 0, j + clocks if j else 0, bound) for i, j, bound in rules])


def moved_back(back, clocks):
    """The clocks that are set back, with so many others ahead of them."""
    return tuple([clock + clocks for clock in back])


def deed_of_both(one, other, triple):
    """The deed of both machines for a triple."""
    first, last, stays = triple
    many, clocks = len(other.places), one.clocks
    if last is None:
        owner, start, goal, rules, back = one.deeds[first]
        return (owner, start * many + stays, goal * many + stays, rules, back)
    owner, start, goal, rules, back = other.deeds[last]
    rules, back = moved_rules(rules, clocks), moved_back(back, clocks)
    if first is None:
        return (owner, stays * many + start, stays * many + goal, rules, back)
    _, from_one, to_one, its_rules, its_back = one.deeds[first]
    return (owner, from_one * many + start, to_one * many + goal, tuple(sorted(its_rules + rules)), its_back + back)


def machine_of_both(one, other, shared):
    """The machine of both, side by side."""
    places = tuple([limits + moved_rules(further, one.clocks) for limits in one.places for further in other.places])
    deeds = tuple([deed_of_both(one, other, triple) for triple in triples_of(one, other, shared)])
    return Machine(one.clocks + other.clocks, places, deeds)
