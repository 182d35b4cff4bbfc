"""What two yards do otherwise, and yards with one thing less (point 13)."""

from doffyard.errors import NoMoment, NoYard
from doffyard.refusals import need_hand, need_moment, need_stray, need_yard
from doffyard.trails import trails_of


def beside(yard, other):
    """Tell (FIRST, LAST), the beats in which some frame does another thing in the one yard than in the other."""
    need_yard(yard)
    need_yard(other)
    if len(yard[0]) != len(other[0]):
        raise NoYard("the yards haven't as many frames")
    spans = [unlike_in_all(legs, others) for legs, others in zip(trails_of(yard), trails_of(other))]
    return span_of([span for span in spans if span is not None])


def without_stray(yard, stray):
    """Tell the yard without the stray of that number."""
    need_yard(yard)
    need_stray(yard, stray)
    strays = yard[5]
    return yard[:5] + (strays[:stray] + strays[stray + 1:],)


def gone_at(yard, hand, moment):
    """Tell the yard in which the hand's TO is the moment, or its own, where that is no more."""
    need_yard(yard)
    need_hand(yard, hand)
    need_moment(moment)
    hands = yard[4]
    frame, minds, start, end = hands[hand]
    if moment <= start:
        raise NoMoment("the hand isn't there before the moment")
    if end is None or end > moment:
        end = moment
    return yard[:4] + (hands[:hand] + ((frame, minds, start, end),) + hands[hand + 1:], yard[5])


def span_of(spans):
    """Tell the span (FIRST, LAST) of all these, LAST None for ever; (None, None) of none."""
    if not spans:
        return (None, None)
    first = min([span[0] for span in spans])
    lasts = [span[1] for span in spans]
    if None in lasts:
        return (first, None)
    return (first, max(lasts))


def unlike_in_all(legs, others):
    """Tell the span of the beats in which a frame does other things by the one row of legs than by the other.

    None where there are no such beats.
    """
    spans = []
    at = 0
    beside_it = 0
    low = 0
    while low is not None:
        leg = legs[at]
        other = others[beside_it]
        ends = [end for end in (leg.end, other.end) if end is not None]
        high = min(ends, default=None)
        span = unlike_in_legs(leg, other, low, high)
        if span is not None:
            spans.append(span)
        if leg.end == high:
            at += 1
        if other.end == high:
            beside_it += 1
        low = high
    if not spans:
        return None
    return span_of(spans)


def unlike_in_legs(leg, other, low, high):
    """Tell that span of the beats behind low to high, or on and on; all of them lie in both legs.

    Rows that agree for a round of each in a row agree in all of these beats, looked at from either end.
    """
    enough = leg.beats + other.beats
    if high is None:
        span = unlike_in(leg, other, low, low + enough)
        return None if span is None else (span[0], None)
    if high - low <= 2 * enough:
        return unlike_in(leg, other, low, high)
    span = unlike_in(leg, other, low, low + enough)
    if span is None:
        return None
    return (span[0], unlike_in(leg, other, high - enough, high)[1])


def unlike_in(leg, other, low, high):
    """Tell that span of the beats behind low to high, each of which is looked at."""
    mine = leg.runs(low, high)
    theirs = other.runs(low, high)
    unlike = []
    at = 0
    beside_it = 0
    while low < high:
        end = min(mine[at][0], theirs[beside_it][0])
        if mine[at][1] != theirs[beside_it][1]:
            unlike.append((low + 1, end))
        if mine[at][0] == end:
            at += 1
        if theirs[beside_it][0] == end:
            beside_it += 1
        low = end
    if not unlike:
        return None
    return (unlike[0][0], unlike[-1][1])
