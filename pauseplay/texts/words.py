"""Words of texts: names, numbers, fractions and rules, written and read. What cannot be read is told as None."""

from pauseplay.base.exact import lowest_terms

LETTERS = "abcdefghijklmnopqrstuvwxyz"

DIGITS = "0123456789"

MOST_LETTERS = 8

MOST_DIGITS = 60

# A rule is written with one of these; the sign, whether it bounds from above, and the mark of its bound.
SIGNS = (("<=", True, 1), ("<", True, 0), (">=", False, 1), (">", False, 0))


def is_made_of(text, signs):
    """Whether each sign of the text is one of these."""
    return all([sign in signs for sign in text])


def is_name(value):
    """Whether the value is a string of 1 to 8 letters."""
    return isinstance(value, str) and 1 <= len(value) <= MOST_LETTERS and is_made_of(value, LETTERS)


def number_read(word):
    """The integer from 0 on that a word tells without zeros ahead, by at most 60 digits."""
    if not (1 <= len(word) <= MOST_DIGITS and is_made_of(word, DIGITS)):
        return None
    return None if len(word) > 1 and word[0] == "0" else int(word)


def fraction_written(top, bottom):
    """A fraction as a word: whole ones as an integer, all in lowest terms."""
    top, bottom = lowest_terms(top, bottom)
    return f"{top}" if bottom == 1 else f"{top}/{bottom}"


def fraction_read(word):
    """The fraction from nought on that a word tells in lowest terms."""
    parts = word.split("/")
    numbers = [number_read(part) for part in parts]
    if None in numbers or len(numbers) > 2:
        return None
    if len(numbers) == 1:
        return (numbers[0], 1)
    top, bottom = numbers
    return (top, bottom) if bottom > 1 and lowest_terms(top, bottom) == (top, bottom) else None


def sides_of(rule):
    """The clock, the sign and the number by which a rule of a machine is written."""
    i, j, (number, end) = rule
    if j == 0:
        return (i, "<=" if end == 1 else "<", number)
    return (j, ">=" if end == 1 else ">", -number)


def rule_of(clock, sign, number):
    """The rule that is written by a clock, a sign and a number; None if there is no such sign."""
    for told, is_above, end in SIGNS:
        if told == sign:
            return (clock, 0, (number, end)) if is_above else (0, clock, (-number, end))
    return None
