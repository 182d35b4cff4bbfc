"""What calls are, and what answers them or shows that they can't be answered (point 18)."""

from doffyard.wholes import is_beat, is_tuple_of

MOST_CALLS = 12


def are_calls(thing):
    """Whether a thing of any kind is a tuple of calls (BEAT, LAST), none less than the one before it."""
    return (is_tuple_of(thing, 0, MOST_CALLS) and all(is_stretch(part) for part in thing)
            and all(thing[at] <= thing[at + 1] for at in range(len(thing) - 1)))


def is_stretch(thing):
    """Whether it is a tuple of two beats, the second no less than the first."""
    return is_tuple_of(thing, 2, 2) and is_beat(thing[0]) and is_beat(thing[1]) and thing[0] <= thing[1]


def count_within(calls, stretch):
    """Tell how many calls lie whole within the stretch."""
    first, last = stretch
    return len([beat for beat, end in calls if first <= beat and end <= last])


def is_crowded(calls, stretch, many):
    """Whether more calls lie whole within the stretch than so many hands can answer in it."""
    return count_within(calls, stretch) > many * (stretch[1] - stretch[0] + 1)


def is_plan(calls, thing, many):
    """Whether a thing of any kind is a plan by which so many hands answer all calls."""
    if not is_tuple_of(thing, len(calls), len(calls)):
        return False
    for beat, call in zip(thing, calls):
        if not (is_beat(beat) and call[0] <= beat <= call[1]):
            return False
    return all(thing.count(beat) <= many for beat in thing)
