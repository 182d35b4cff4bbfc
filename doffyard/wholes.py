"""Whole numbers, and what is asked of things of any kind before they are compared."""

BIG = 10 ** 30


def is_whole(thing):
    """Whether it is an int that is no truth."""
    return isinstance(thing, int) and not isinstance(thing, bool)


def is_within(thing, low, high):
    """Whether it is a whole number from low to high."""
    return is_whole(thing) and low <= thing <= high


def is_moment(thing):
    """Whether it is a whole number from 0 to BIG."""
    return is_within(thing, 0, BIG)


def is_beat(thing):
    """Whether it is a whole number from 1 to BIG."""
    return is_within(thing, 1, BIG)


def is_count(thing):
    """Whether it is a whole number from 0 on, however great."""
    return is_whole(thing) and thing >= 0


def is_tuple_of(thing, least, most):
    """Whether it is a tuple of least to most parts."""
    return isinstance(thing, tuple) and least <= len(thing) <= most


def is_rising(parts):
    """Whether each part is more than the one before it; the parts must be of kinds that compare."""
    return all(parts[at] < parts[at + 1] for at in range(len(parts) - 1))
