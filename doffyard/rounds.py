"""When moments are alike, and from where on a round comes again for ever (point 9)."""

from doffyard.likeness import stand_alike, torn_of
from doffyard.refusals import need_moment, need_yard
from doffyard.runs import Seeker, parts_of, run_to, run_yard
from doffyard.walker import Mark, Walker, walk_to, what_stands
from doffyard.wholes import BIG


def are_alike(yard, moment, other):
    """Whether the two moments of the yard are alike."""
    need_yard(yard)
    need_moment(moment)
    need_moment(other)
    early = min(moment, other)
    late = max(moment, other)
    walkers = run_yard(yard, early)
    before = what_stands(walkers)
    for walker in walkers:
        run_to(walker, late)
    return stand_alike(yard, early, before, late, what_stands(walkers))


def round_of(yard):
    """Tell (LEAD, ROUND, LENGTHS) of the yard."""
    need_yard(yard)
    rounds = [round_of_part(Walker(yard, frames, hands)) for frames, hands in parts_of(yard)]
    beats = 1
    for walker, own, lengths in rounds:
        beats = common_multiple(beats, own)
    lead = lead_of([walker for walker, own, lengths in rounds], beats)
    spun = [sum([lengths[kind] * (beats // own) for walker, own, lengths in rounds]) for kind in range(2)]
    return (lead, beats, tuple(spun))


def round_of_part(walker):
    """Tell (a walker where the round begins, the beats of the round, LENGTHS spun in it) of a part of a yard."""
    start, mark = to_last_round(walker)
    beats = walker.now - mark.now
    lengths = [0, 0]
    for frame, then in zip(walker.frames, mark.lengths_then):
        lengths[frame.kind] += frame.lengths - then
    ahead = start.twin()
    walk_to(ahead, start.now + beats)
    while not ahead.is_like(Mark(start)):
        step_both(start, ahead)
    return (start, beats, lengths)


def to_last_round(walker):
    """Bring a walker to the end of a round that comes again for ever.

    Return a walker just behind the last stray, coming or going that is ever met, and the mark where the round begins.
    """
    start = walker.twin()
    seeker = Seeker(walker)
    while True:
        behind = seeker.mark.behind
        come_round = seeker.step(BIG)
        if seeker.mark.behind != behind:
            start = walker.twin()
        if come_round:
            times = walker.rounds_ahead(seeker.mark, None)
            if times is None:
                return (start, seeker.mark)
            seeker.leap(times)


def step_both(walker, other):
    """Walk both on for as many beats as are quiet for both: within these they don't come to be alike."""
    walker.begin()
    other.begin()
    beats = min(walker.quiet(BIG), other.quiet(BIG))
    walker.step(beats)
    other.step(beats)


def lead_of(walkers, beats):
    """Tell the moment from which on a round of so many beats comes again, of walkers where their parts' rounds begin.

    Broken threads of parts that never touch stand in one order: it too must be the same a round later.
    """
    ahead = [walker.twin() for walker in walkers]
    lead = max([walker.now for walker in walkers])
    for walker, later in zip(walkers, ahead):
        run_to(walker, lead)
        run_to(later, lead + beats)
    while torn_of(what_stands(walkers)) != torn_of(what_stands(ahead)):
        for walker in walkers + ahead:
            walker.step(1)
        lead += 1
    return lead


def common_multiple(some, other):
    """Tell the least common multiple of two numbers from 1 on."""
    high, low = some, other
    while low > 0:
        high, low = low, high % low
    return some // high * other
