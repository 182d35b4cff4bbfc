"""The next beat in which something happens (point 8)."""

from doffyard.refusals import need_moment, need_yard
from doffyard.runs import Seeker, parts_of, run_to
from doffyard.walker import Walker, walk_to
from doffyard.wholes import BIG


def next_event(yard, moment):
    """Tell the first eventful beat behind the moment, to BIG at most, or None."""
    need_yard(yard)
    need_moment(moment)
    beats = [event_in_part(Walker(yard, frames, hands), moment) for frames, hands in parts_of(yard)]
    return min([beat for beat in beats if beat is not None], default=None)


def event_in_part(walker, moment):
    """Tell the first eventful beat behind the moment of the part of a yard that a walker has, or None."""
    run_to(walker, max(0, moment - 1))
    # at moment 0 this is what they do in beat 1 itself, and so that is nothing new
    doing = words_of(walker)
    walk_to(walker, moment)
    seeker = Seeker(walker)
    while walker.now < BIG:
        if begins_eventful(walker, doing):
            return walker.now + 1
        broken = list(walker.broken)
        come_round = seeker.step(BIG - walker.now)
        if walker.broken != broken:
            return walker.now
        if come_round:
            seeker.leap(walker.rounds_ahead(seeker.mark, BIG))
    return None


def words_of(walker):
    """Tell what each frame does in the beat behind now."""
    return [frame.does() for frame in walker.frames]


def begins_eventful(walker, doing):
    """Begin the beat behind now; tell whether a hand comes, goes or takes in it, or a frame does another thing."""
    turned = walker.turned
    idle = [hand.job is None for hand in walker.hands]
    walker.begin()
    taken = [hand for hand, was_idle in zip(walker.hands, idle) if was_idle and hand.job is not None]
    return walker.turned > turned or len(taken) > 0 or words_of(walker) != doing
