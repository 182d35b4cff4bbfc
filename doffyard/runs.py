"""Brings a yard to a moment, however far: rounds that come again are leapt over."""

from doffyard.walker import Mark, Walker


def run_yard(yard, moment):
    """Tell walkers that have all of the yard between them, each brought to the moment."""
    walkers = [Walker(yard, frames, hands) for frames, hands in parts_of(yard)]
    for walker in walkers:
        run_to(walker, moment)
    return walkers


def run_part(yard, frame, moment):
    """Tell a walker that has the part of the yard to which the frame belongs, brought to the moment."""
    frames, hands = [part for part in parts_of(yard) if frame in part[0]][0]
    walker = Walker(yard, frames, hands)
    run_to(walker, moment)
    return walker


def run_to(walker, moment):
    """Bring a walker to a moment that isn't before its own."""
    seeker = Seeker(walker)
    while walker.now < moment:
        if seeker.step(moment - walker.now):
            seeker.leap(walker.rounds_ahead(seeker.mark, moment))


class Seeker:
    """Takes a walker on and finds where it has come round: to stand as it stood at the mark.

    The mark moves on after ever twice as many steps, so that it comes to lie in a round
    without all moments being kept, however long the round is.
    """

    def __init__(self, walker):
        self.walker = walker
        self.put_mark(1)

    def put_mark(self, limit):
        """Have the mark here for so many steps."""
        self.mark = Mark(self.walker)
        self.steps = 0
        self.limit = limit

    def step(self, most):
        """Take the walker on by a step, most beats at most; tell whether it has come round.

        Where it meets a stray, a coming or a going the mark is put just behind that.
        """
        # a beat in which a hand comes or goes is walked by itself, so that the mark is no later than need be
        if self.walker.to_turn() == 0:
            most = 1
        self.walker.step(most)
        self.steps += 1
        if self.walker.count_met() != self.mark.behind:
            self.put_mark(1)
        elif self.walker.is_like(self.mark):
            return True
        elif self.steps >= self.limit:
            self.put_mark(2 * self.limit)
        return False

    def leap(self, times):
        """Leap over so many rounds more, where the walker has come round, and put the mark behind them."""
        self.walker.leap(self.mark, times)
        self.put_mark(1)


def parts_of(yard):
    """Part the yard into (frames, hands), lists of numbers, that never touch each other.

    Each part comes to its own round, and that of them all together may be far longer.
    """
    leads = lead_frames(yard)
    parts = []
    for lead in sorted(set(leads)):
        frames = [frame for frame, other in enumerate(leads) if other == lead]
        hands = [at for at, hand in enumerate(yard[4]) if leads[minded(yard, hand)[0]] == lead]
        parts.append((frames, hands))
    return parts


def lead_frames(yard):
    """Tell for each frame the one by which its part is known: frames are together that a hand may go between."""
    leads = list(range(len(yard[0])))
    for hand in yard[4]:
        frames = minded(yard, hand)
        old = [leads[frame] for frame in frames]
        leads = [old[0] if lead in old else lead for lead in leads]
    return leads


def minded(yard, hand):
    """Tell the frames that a hand minds and that may break, or else the first that it minds."""
    frames = [frame for frame in hand[1] if may_break(yard, frame)]
    if frames:
        return frames
    return [hand[1][0]]


def may_break(yard, frame):
    """Whether a thread of the frame may ever break."""
    return len(yard[0][frame][5]) > 0 or any(stray[0] == frame for stray in yard[5])
