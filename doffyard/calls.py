"""The fewest hands that answer calls (point 18)."""

from doffyard.callings import are_calls, count_within, is_crowded
from doffyard.errors import NoCalls
from doffyard.refusals import need_many


def least_hands(calls):
    """Tell (HOW, PLAN, STRETCH): the fewest hands that answer all calls, how they do, and why fewer don't."""
    need_calls(calls)
    if not calls:
        return (0, (), None)
    stretch = tightest(calls)
    how = needed(calls, stretch)
    return (how, plan_for(calls, how), stretch)


def with_hands(calls, many):
    """Tell ("plan", PLAN) for so many hands, or ("short", A, B): a stretch with more calls than they can answer."""
    need_calls(calls)
    need_many(many)
    if not calls:
        return ("plan", ())
    stretch = tightest(calls)
    if is_crowded(calls, stretch, many):
        return ("short", stretch[0], stretch[1])
    return ("plan", plan_for(calls, many))


def need_calls(thing):
    """Refuse what are no calls."""
    if not are_calls(thing):
        raise NoCalls("these are no calls")


def tightest(calls):
    """Tell the stretch within which the most hands are needed: it begins and ends as calls do."""
    stretches = [(beat, end) for beat, last in calls for first, end in calls if beat <= end]
    return max(stretches, key=lambda stretch: needed(calls, stretch))


def needed(calls, stretch):
    """Tell the fewest hands that can answer the calls that lie whole within the stretch, by their number alone."""
    beats = stretch[1] - stretch[0] + 1
    return (count_within(calls, stretch) + beats - 1) // beats


def plan_for(calls, hands):
    """Tell a beat for each call, by hands that are enough: of those that wait the one goes first that is due first."""
    plan = {}
    beat = 0
    while len(plan) < len(calls):
        left = [at for at in range(len(calls)) if at not in plan]
        beat = max(beat + 1, min([calls[at][0] for at in left]))
        ready = [at for at in left if calls[at][0] <= beat]
        due_first = sorted(ready, key=lambda number: calls[number][1])
        for at in due_first[:hands]:
            plan[at] = beat
    return tuple(plan[at] for at in range(len(calls)))
