"""Brings a yard to a moment, however far: rounds that come again are leapt over."""

from doffyard.walker import Mark, Walker


def run_yard(yard, moment):
    """Tell walkers that have all of the yard between them, each brought to the moment."""
    walkers = [Walker(yard, frames, hands) for frames, hands in parts_of(yard)]
    for walker in walkers:
        run_to(walker, moment)
    return walkers


def run_to(walker, moment):
    """Bring a walker to a moment that isn't before its own.

    The mark moves on after ever twice as many steps, so that it comes to lie in a round
    without all moments being kept, however long the round is.
    """
    mark = Mark(walker)
    steps = 0
    limit = 1
    while walker.now < moment:
        walker.step(moment - walker.now)
        steps += 1
        if walker.count_met() != mark.behind:
            mark = Mark(walker)
            steps = 0
            limit = 1
        elif walker.is_like(mark):
            walker.leap(mark, rounds_ahead(walker, mark, moment))
        elif steps == limit:
            mark = Mark(walker)
            steps = 0
            limit *= 2


def rounds_ahead(walker, mark, moment):
    """Tell how many rounds, like that from the mark to now, end by the moment and meet no stray, coming or going."""
    ahead = moment - walker.now
    turn = walker.to_turn()
    if turn is not None:
        ahead = min(ahead, turn)
    times = ahead // (walker.now - mark.now)
    for frame, spun in zip(walker.frames, mark.spun_then):
        stray = frame.to_stray()
        if stray is not None and frame.spun > spun:
            times = min(times, (stray - 1) // (frame.spun - spun))
    return times


def parts_of(yard):
    """Part the yard into (frames, hands), lists of numbers, that never touch each other.

    Each part comes to its own round, and that of them all together may be far longer.
    """
    leads = lead_frames(yard)
    parts = []
    for lead in sorted(set(leads)):
        frames = [frame for frame, other in enumerate(leads) if other == lead]
        hands = [at for at, hand in enumerate(yard[4]) if leads[minded(yard, hand)[0]] == lead]
        parts.append((frames, hands))
    return parts


def lead_frames(yard):
    """Tell for each frame the one by which its part is known: frames are together that a hand may go between."""
    leads = list(range(len(yard[0])))
    for hand in yard[4]:
        frames = minded(yard, hand)
        old = [leads[frame] for frame in frames]
        leads = [old[0] if lead in old else lead for lead in leads]
    return leads


def minded(yard, hand):
    """Tell the frames that a hand minds and that may break, or else the first that it minds."""
    frames = [frame for frame in hand[1] if may_break(yard, frame)]
    if frames:
        return frames
    return [hand[1][0]]


def may_break(yard, frame):
    """Whether a thread of the frame may ever break."""
    return len(yard[0][frame][5]) > 0 or any(stray[0] == frame for stray in yard[5])
