"""The house's papers: for each question the claim that is true, with a paper that the checker takes (point 21)."""

from doffyard.beats import frames_do
from doffyard.beside import beside
from doffyard.calls import least_hands, with_hands
from doffyard.checker import MOST_ROUND
from doffyard.doffings import least_doffers
from doffyard.errors import NoMany, NoMoment, NoWait
from doffyard.plain import fewest_hands, plain_worst
from doffyard.rounds import round_of
from doffyard.shortcuts import legs_to
from doffyard.small import worst_story
from doffyard.stands import stands
from doffyard.wholes import BIG


def paper_stands(yard, moment):
    """Tell the claim of what stands at the moment, with LEGS to it."""
    return (("stands", yard, moment, stands(yard, moment)), need_legs(yard, moment))


def paper_round(yard):
    """Tell the claim of the yard's round, with LEGS to where it begins."""
    lead, beats, lengths = round_of(yard)
    if lead > BIG or beats > MOST_ROUND:
        raise NoMoment("the round begins too far off, or is too long")
    return (("round", yard, lead, beats), need_legs(yard, lead))


def paper_unlike(yard, other):
    """Tell the claim of the first beat in which a frame, the least one, does another thing, with LEGS in both yards."""
    first, last = beside(yard, other)
    if first is None or first > BIG:
        raise NoMoment("there is no such beat, or it is too far off")
    pairs = list(zip(frames_do(yard, first), frames_do(other, first)))
    frame = [number for number, (mine, theirs) in enumerate(pairs) if mine != theirs][0]
    return (("unlike", yard, other, frame, first), (need_legs(yard, first - 1), need_legs(other, first - 1)))


def paper_plain(yard):
    """Tell the claim of the most beats that a break can wait in a plain yard, with ROWS by which one does."""
    beats, rows = plain_worst(yard)
    return (("plain", yard, beats), rows)


def paper_fewest(yard, wait):
    """Tell the claim of the fewest hands of a plain yard, with ROWS by which one hand less is too few."""
    how = fewest_hands(yard, wait)
    if how is None:
        raise NoWait("no number of hands is enough for this wait")
    rows = plain_worst(yard)[1]
    return (("fewest", yard, wait, how), None if how == 1 else rows)


def paper_small(small):
    """Tell the claim of the worst that a story can bring in a small yard, with that story."""
    told = worst_story(small)
    if told[0] == "endless":
        return (("endless", small), told[1:])
    return (("story", small, told[1]), told[2])


def paper_calls(calls):
    """Tell the claim of the fewest hands for calls, with a plan and a stretch."""
    how, plan, stretch = least_hands(calls)
    return (("calls", calls, how), (plan, stretch))


def paper_short(calls, many):
    """Tell the claim that so many hands are too few for calls, with a stretch."""
    told = with_hands(calls, many)
    if told[0] == "plan":
        raise NoMany("so many hands answer all calls")
    return (("short", calls, many), told[1:])


def paper_doffers(doffs):
    """Tell the claim of the fewest doffers for doffings, with a plan and a beat."""
    how, plan, beat = least_doffers(doffs)
    return (("doffers", doffs, how), (plan, beat))


def need_legs(yard, moment):
    """Tell LEGS to the moment; refuse where they would take too many beats to walk."""
    legs = legs_to(yard, moment)
    if legs is None:
        raise NoMoment("no LEGS to this moment are short enough")
    return legs
