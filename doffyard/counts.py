"""For which counts of hands no break waits too long (point 12)."""

from doffyard.errors import NoMany
from doffyard.plainness import with_hands_from
from doffyard.refusals import need_frame, need_wait, need_yard
from doffyard.waits import longest
from doffyard.wholes import is_within

MOST_COUNT = 6


def counts(yard, frame, wait, many):
    """Tell for each count of hands from 1 to many, all from the frame, whether no break ever waits longer than wait."""
    need_yard(yard)
    need_frame(yard, frame)
    need_wait(wait)
    if not is_within(many, 1, MOST_COUNT):
        raise NoMany("a count of hands is here a whole number from 1 to 6")
    return tuple(waits_within(with_hands_from(yard, frame, count), wait) for count in range(1, many + 1))


def waits_within(yard, wait):
    """Whether no break of the yard ever waits longer, nor is one never whole."""
    told = longest(yard)
    return told[0] == "none" or (told[0] == "waits" and told[1] <= wait)
