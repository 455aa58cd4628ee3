"""Offers of the player, answers of the foe, and plays: what comes of one behind the other."""

from pauseplay.base.exact import order_of
from pauseplay.base.integers import is_pair, is_whole_between
from pauseplay.base.points import check_pause, is_pause
from pauseplay.base.stretches import lowest_stretch, shared_stretch
from pauseplay.errors import InvalidOperation, Refused
from pauseplay.machine.machines import check_machine, check_places
from pauseplay.machine.runs import check_standing
from pauseplay.machine.steps import standing_moved, standing_waited, stretch_for, why_not_done, why_not_moved
from pauseplay.machine.steps import why_not_waited


def stretches_at(machine, standing, owner):
    """The list of pairs of a deed of the owner and of the stretch of the pauses behind which it is open."""
    found = [
        (deed, stretch_for(machine, standing, deed)) for deed, told in enumerate(machine.deeds) if told[0] == owner
    ]
    return [(deed, stretch) for deed, stretch in found if stretch is not None]


def offers_at(machine, standing):
    """The ascending tuple of the pairs of an own deed and of the stretch of the pauses with which it can be offered."""
    check_machine(machine)
    check_standing(machine, standing)
    return tuple(stretches_at(machine, standing, "own"))


def opens(machine, standing, pause):
    """The ascending tuple of the foe's deeds that are open behind the pause."""
    check_machine(machine)
    check_standing(machine, standing)
    check_pause(pause)
    if why_not_waited(machine, standing, pause) is not None:
        raise InvalidOperation("the limits of the place do not let the pause")
    at = standing_waited(standing, pause)
    return tuple([
        deed for deed, told in enumerate(machine.deeds) if told[0] == "foe" and why_not_done(machine, at, deed) is None
    ])


def is_done_by(machine, standing, owner, pause, deed):
    """Whether these are a pause and the index of a deed of the owner that is open behind it."""
    if not (is_pause(pause) and is_whole_between(deed, 0, len(machine.deeds) - 1)):
        return False
    return machine.deeds[deed][0] == owner and why_not_moved(machine, standing, pause, deed) is None


def is_offer_there(machine, standing, value):
    """Whether the value is an offer at the standing, whose integers have any length."""
    return is_pair(value) and is_done_by(machine, standing, "own", value[0], value[1])


def is_answer_there(machine, standing, offer, value):
    """Whether the value is an answer to the offer at the standing, whose integers have any length."""
    if value == ("let",):
        return True
    if not (isinstance(value, tuple) and len(value) == 3 and value[0] == "deed"):
        return False
    _, pause, deed = value
    return is_done_by(machine, standing, "foe", pause, deed) and order_of(pause, offer[0]) <= 0


def is_offer(machine, standing, value):
    """Whether the value is an offer: a pause, and an own deed that is open behind it."""
    check_machine(machine)
    check_standing(machine, standing)
    return is_offer_there(machine, standing, value)


def check_offer(machine, standing, offer):
    """Raise the error for the first one that is wrong of a machine, a standing and an offer there."""
    if not is_offer(machine, standing, offer):
        raise InvalidOperation("an offer is a pair of a pause and an own deed that is open behind it")


def is_answer(machine, standing, offer, value):
    """Whether the value is an answer to the offer."""
    check_offer(machine, standing, offer)
    return is_answer_there(machine, standing, offer, value)


def answers_to(machine, standing, offer):
    """The ascending tuple of the pairs of a foe's deed and of the stretch of the pauses with which it is an answer."""
    check_offer(machine, standing, offer)
    up_to = ((0, 1), 1, offer[0], 1)
    found = [(deed, shared_stretch(stretch, up_to)) for deed, stretch in stretches_at(machine, standing, "foe")]
    return tuple([(deed, lowest_stretch(stretch)) for deed, stretch in found if stretch is not None])


def standing_played(machine, standing, offer, answer):
    """The standing behind an offer and an answer."""
    pause, deed = offer if answer == ("let",) else answer[1:]
    return standing_moved(machine, standing, pause, deed)


def behind(machine, standing, offer, answer):
    """The standing behind the offer and the answer."""
    check_offer(machine, standing, offer)
    if not is_answer_there(machine, standing, offer, answer):
        raise InvalidOperation("an answer is to let it, or a pause up to that of the offer and a foe's deed open then")
    return standing_played(machine, standing, offer, answer)


def played(machine, standing, goals, turns):
    """The pair of the tuple of the standings of a play, and of whether it is "won" or "open"."""
    check_machine(machine)
    check_standing(machine, standing)
    check_places(machine, goals)
    if not (isinstance(turns, tuple) and all([is_pair(turn) for turn in turns])):
        raise InvalidOperation("the turns are not a tuple of pairs of an offer and an answer")
    passed = [standing]
    for index, (offer, answer) in enumerate(turns):
        if passed[-1][0] in goals:
            raise Refused(("goal", index))
        if not is_offer_there(machine, passed[-1], offer):
            raise Refused(("offer", index))
        if not is_answer_there(machine, passed[-1], offer, answer):
            raise Refused(("answer", index))
        passed.append(standing_played(machine, passed[-1], offer, answer))
    return (tuple(passed), "won" if passed[-1][0] in goals else "open")
