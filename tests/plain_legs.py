"""LEGS found and followed by the words of point 20, on the tests' own walk."""

from tests.plain_walk import alike_key, core, far_walk, frame_words, one_beat, shifted, start

BIG = 10 ** 30


def legs_to(yard, moment):
    """LEGS to a moment."""
    return far_walk(yard, moment)[1]


def whole(thing, low):
    return type(thing) is int and thing >= low


def by_legs(yard, legs, moment):
    """What stands at the moment by the legs, None where they aren't such."""
    if type(legs) is not tuple:
        return None
    walked, end = 0, 0
    for leg in legs:
        if type(leg) is not tuple or len(leg) != 3 or not all(whole(part, low) for part, low in zip(leg, (end, 1, 1))):
            return None
        first, beats, times = leg
        walked += first - end + beats
        end = first + beats * (times + 1)
    if end > moment or walked + moment - end > 10000:
        return None
    now, standing = 0, start(yard)
    for first, beats, times in legs:
        standing, now = walk(yard, standing, now, first), first
        before = standing
        standing = walk(yard, standing, first, first + beats)
        end = first + beats * (times + 1)
        if core(before) != core(standing):
            return None
        if any(edge is not None and first + 1 <= edge + 1 <= end for hand in yard[4] for edge in hand[2:]):
            return None
        for frame, spun, _ in yard[5]:
            low, high = before[0][frame][0], standing[0][frame][0]
            if low < spun <= low + (high - low) * (times + 1):
                return None
        standing, now = shifted(standing, before, first, beats * times, times), end
    return walk(yard, standing, now, moment)


def walk(yard, standing, now, moment):
    for beat in range(now + 1, moment + 1):
        standing = one_beat(yard, standing, beat)
    return standing


def same(thing, told):
    """Whether both are just the same, kinds too."""
    if type(told) is tuple:
        return type(thing) is tuple and len(thing) == len(told) and all(same(*pair) for pair in zip(thing, told))
    return type(thing) is type(told) and thing == told


def is_round(yard, lead, beats, legs):
    """Whether two moments are alike, by legs to the first."""
    if not (whole(lead, 0) and lead <= BIG and whole(beats, 1) and beats <= 10000):
        return False
    standing = by_legs(yard, legs, lead)
    if standing is None:
        return False
    after = walk(yard, standing, lead, lead + beats)
    return alike_key(yard, standing, lead) == alike_key(yard, after, lead + beats)


def is_unlike(yard, other, frame, beat, papers):
    """Whether the frame does another thing in the beat in the one yard than in the other, by legs in both."""
    rows = [by_legs(asked, legs, beat - 1) for asked, legs in zip((yard, other), papers)]
    if None in rows:
        return False
    return frame_words(yard, rows[0])[frame] != frame_words(other, rows[1])[frame]
