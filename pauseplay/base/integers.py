"""Integers as they may be passed, and pairs and rows of them."""

TOO_GREAT = 10 ** 60


def is_whole(value):
    """Whether the value is an integer of at most 60 digits, and no boolean."""
    return isinstance(value, int) and not isinstance(value, bool) and -TOO_GREAT < value < TOO_GREAT


def is_whole_between(value, least, greatest):
    """Whether the value is an integer from the least to the greatest one."""
    return is_whole(value) and least <= value <= greatest


def is_mark(value):
    """Whether the value is 1 or 0, as they tell whether an end belongs to something."""
    return is_whole_between(value, 0, 1)


def is_pair(value):
    """Whether the value is a tuple of two."""
    return isinstance(value, tuple) and len(value) == 2


def is_ascending(value, least, greatest):
    """Whether the value is an ascending tuple of integers from the least to the greatest one."""
    if not isinstance(value, tuple):
        return False
    # Only what is known to be integers can be compared without an error.
    if not all([is_whole_between(item, least, greatest) for item in value]):
        return False
    return all([item < following for item, following in zip(value, value[1:])])
