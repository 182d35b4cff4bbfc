"""Finds LEGS to a moment, as the checker asks for them (points 20 and 21)."""

from doffyard.legs import MOST_WALKED
from doffyard.walker import Mark, Walker


def legs_to(yard, moment):
    """Tell LEGS to the moment by which no more beats are walked than by any others; None where they are too many.

    Between two meetings (of strays, comings, goings) all goes into one round, and the fewest beats are walked where a
    leg begins at the first moment that comes again and goes over as many rounds as there is room for.
    """
    walker = Walker(yard, list(range(len(yard[0]))), list(range(len(yard[4]))))
    legs = []
    walked = 0
    marks = {}
    while walker.now < moment:
        standing = standing_of(walker)
        if standing in marks:
            legs += leap_from(walker, marks[standing], moment)
            marks = {}
        else:
            marks[standing] = Mark(walker)
            behind = walker.count_met()
            walker.step(1)
            walked += 1
            if walker.count_met() != behind:
                marks = {}
        if walked > MOST_WALKED:
            return None
    return tuple(legs)


def standing_of(walker):
    """Tell how all stands, but for strays, comings and goings."""
    return (tuple((frame.fill, frame.left) for frame in walker.frames),
            tuple((frame, thread) for frame, thread, since in walker.broken),
            tuple(hand.posed() for hand in walker.hands))


def leap_from(walker, mark, moment):
    """Leap over all rounds like that from the mark to now that there is room for; return a list of the leg, if any."""
    times = walker.rounds_ahead(mark, moment)
    if times == 0:
        return []
    leg = (mark.now, walker.now - mark.now, times)
    walker.leap(mark, times)
    return [leg]
