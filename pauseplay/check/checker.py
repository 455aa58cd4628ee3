"""Claims, and a checker that takes their papers: it looks for nothing, it goes along what a paper tells."""

from pauseplay.base.points import is_point
from pauseplay.errors import InvalidNumber, InvalidOperation, PlayError, Refused
from pauseplay.game.foe import is_outcome
from pauseplay.game.keep import is_kept_or_hunted
from pauseplay.game.time import is_time_paper
from pauseplay.game.ways import is_pause_for
from pauseplay.lots.areas import is_within_or_point
from pauseplay.lots.lots import check_rules, is_ring
from pauseplay.machine.reach import is_run_or_closed
from pauseplay.machine.steps import are_rules_kept

# For each kind how many members it has, and its opposite kind.
KINDS = {
    "comes": (3, "never comes"),
    "held": (3, "won"),
    "hunted": (3, "kept"),
    "in time": (4, "too late"),
    "kept": (3, "hunted"),
    "never comes": (3, "comes"),
    "outside": (3, "within"),
    "point": (2, "ring"),
    "ring": (2, "point"),
    "too late": (4, "in time"),
    "waits": (4, None),
    "within": (3, "outside"),
    "won": (3, "held"),
}

# How papers begin that are not told by the word of their kind.
FIRST_WORDS = {"outside": "point", "comes": "run", "never comes": "closed"}


def kinds():
    """The ascending tuple of the kinds of claims."""
    return tuple(sorted(KINDS))


def is_point_kept(clocks, rules, paper):
    """Whether the paper is a point of so many clocks that keeps all rules."""
    is_there = is_point(clocks, paper)
    check_rules(clocks, rules)
    return is_there and are_rules_kept(paper, rules)


def is_judged_right(claim, paper):
    """Whether the function that judges papers of the claim, or of its opposite, takes the paper; with its errors."""
    kind = claim[0]
    if kind == "waits":
        _, machine, standing, goods, bads = claim
        return is_pause_for(machine, standing, goods, bads, paper)
    if kind in ("in time", "too late"):
        _, machine, standing, goals, most = claim
        return is_time_paper(machine, goals, standing, most, paper)
    if kind in ("point", "ring"):
        _, clocks, rules = claim
        return is_point_kept(clocks, rules, paper) if kind == "point" else is_ring(clocks, rules, paper)
    _, first, second, third = claim
    if kind in ("within", "outside"):
        return is_within_or_point(first, second, third, paper)
    if kind in ("comes", "never comes"):
        return is_run_or_closed(first, second, third, paper)
    if kind in ("won", "held"):
        return is_outcome(first, third, second, paper)
    return is_kept_or_hunted(first, third, second, paper)


def has_first_word(kind, paper):
    """Whether the paper begins as those of the kind do, if these are told by a word."""
    if kind in ("point", "ring", "waits"):
        return True
    word = FIRST_WORDS.get(kind, kind)
    return isinstance(paper, tuple) and paper != () and paper[0] == word


def is_claim(value):
    """Whether the value is a claim."""
    if not (isinstance(value, tuple) and value and isinstance(value[0], str) and value[0] in KINDS):
        return False
    many, _ = KINDS[value[0]]
    if len(value) != many + 1:
        return False
    try:
        # None is no paper of any claim, so this is a look at the members alone.
        is_judged_right(value, None)
    except (PlayError, InvalidNumber, Refused):
        return False
    return True


def check_claim(claim):
    """Raise InvalidOperation unless this is a claim."""
    if not is_claim(claim):
        raise InvalidOperation("a claim, a tuple of its kind and its members, is asked for")


def opposite(claim):
    """The claim of the opposite kind with the same members, None if there is no such kind."""
    check_claim(claim)
    _, other = KINDS[claim[0]]
    return None if other is None else (other, *claim[1:])


def takes(claim, paper):
    """Whether the paper is one for the claim."""
    check_claim(claim)
    return has_first_word(claim[0], paper) and is_judged_right(claim, paper)
