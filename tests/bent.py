"""Values with one part changed, as somebody might pass them by mistake."""

from tests.kinds import LAMP, TOO_GREAT

OTHERS = (None, True, False, 0, 1, -1, (), (0,), (0, 1), ((0, 1), 0), "", "won", "own", [], [0], {}, {0: 1}, TOO_GREAT, LAMP)


def bent_value(random, value, depth=0):
    """The value with one part of it changed, left out, put in, twice, or exchanged."""
    if isinstance(value, tuple) and value and (depth == 0 or random.random() < 0.9):
        index = random.randrange(len(value))
        kind = random.choice(("deep",) * 12 + ("out", "twice", "swap", "other", "list"))
        if kind == "deep":
            return value[:index] + (bent_value(random, value[index], depth + 1),) + value[index + 1:]
        if kind == "out":
            return value[:index] + value[index + 1:]
        if kind == "twice":
            return value[:index] + (value[index],) + value[index:]
        if kind == "swap":
            other = random.randrange(len(value))
            told = list(value)
            told[index], told[other] = told[other], told[index]
            return tuple(told)
        if kind == "list":
            return list(value)
    if isinstance(value, int) and random.random() < 0.8:
        return value + random.choice((-1, 1, 1, 2))
    if isinstance(value, str) and value and random.random() < 0.8:
        index = random.randrange(len(value))
        return random.choice((value[:index] + value[index + 1:], value[:index] + random.choice(" \nax0<,") + value[index:], value.upper()))
    return random.choice(OTHERS + ([value], (value,), value))
