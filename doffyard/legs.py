"""LEGS: a way to a moment, with rounds that are walked once and then leapt over (point 20)."""

from doffyard.walker import Mark, Walker, walk_to
from doffyard.wholes import is_tuple_of, is_whole

MOST_WALKED = 10000


def walked_by(yard, legs, moment):
    """Tell a walker that has all of the yard, brought to the moment by the LEGS.

    None where the thing, of any kind, isn't LEGS to that moment, or they don't hold.
    """
    if not are_legs(legs, moment):
        return None
    walker = Walker(yard, list(range(len(yard[0]))), list(range(len(yard[4]))))
    for start, beats, times in legs:
        walk_to(walker, start)
        if not leap_leg(walker, beats, times):
            return None
    walk_to(walker, moment)
    return walker


def are_legs(thing, moment):
    """Whether it is a tuple of legs to the moment, one behind the other, for which not too many beats are walked."""
    if not isinstance(thing, tuple):
        return False
    end = 0
    leapt = 0
    for part in thing:
        if not is_leg(part, end):
            return False
        start, beats, times = part
        end = start + beats * (times + 1)
        leapt += beats * times
    return end <= moment and moment - leapt <= MOST_WALKED


def is_leg(thing, low):
    """Whether it is (FROM, ROUND, TIMES), FROM no less than low."""
    return (is_tuple_of(thing, 3, 3) and all(is_whole(part) for part in thing)
            and thing[0] >= low and thing[1] >= 1 and thing[2] >= 1)


def leap_leg(walker, beats, times):
    """Walk a round and leap over so many more; return whether it is one and meets no stray, coming or going."""
    mark = Mark(walker)
    walk_to(walker, walker.now + beats)
    if walker.count_met() != mark.behind or not walker.is_like(mark):
        return False
    free = walker.rounds_ahead(mark, None)
    if free is not None and times > free:
        return False
    walker.leap(mark, times)
    return True
