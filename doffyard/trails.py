"""What each frame does in all beats, for ever, in legs within which it comes again round by round."""

from doffyard.runs import Seeker, parts_of
from doffyard.walker import Walker
from doffyard.wholes import BIG


class Leg:
    """What a frame does in the beats behind start, to the moment end or (None) for ever, again each so many beats.

    Its first round is told by the moments behind which the frame does another thing, and the words of what it does.
    """

    def __init__(self, start, end, beats, moments, words):
        self.start = start
        self.end = end
        self.beats = beats
        self.moments = moments
        self.words = words

    def runs(self, low, high):
        """Tell the runs (TO, WORD) of one word each that make up the beats behind low to high, all of them its own."""
        told = []
        past = (low - self.start) // self.beats * self.beats
        at = self.run_at(low - past)
        end = low
        while end < high:
            if at + 1 < len(self.moments):
                end = self.moments[at + 1] + past
            else:
                past += self.beats
                end = self.start + past
            told.append((min(end, high), self.words[at]))
            at = (at + 1) % len(self.moments)
        return told

    def run_at(self, moment):
        """Tell the number of the run, in the first round, to which the beat behind the moment belongs."""
        low = 0
        high = len(self.moments)
        while high - low > 1:
            middle = (low + high) // 2
            if self.moments[middle] <= moment:
                low = middle
            else:
                high = middle
        return low


def trails_of(yard):
    """Tell for each frame of the yard its legs, from moment 0 on; the last one goes on for ever."""
    trails = {}
    for frames, hands in parts_of(yard):
        stretches = stretches_of(Walker(yard, frames, hands))
        for place, frame in enumerate(frames):
            trails[frame] = [leg_of(stretch, place) for stretch in stretches]
    return [trails[frame] for frame in range(len(yard[0]))]


def stretches_of(walker):
    """Take a walker on till a round comes again for ever; return stretches (START, END, BEATS, STEPS), END as in a leg.

    STEPS are those of the first round: (moment, the words of what each frame does behind it).
    """
    seeker = Seeker(walker)
    told = []
    start = walker.now
    steps = []
    while True:
        steps.append((walker.now, [frame.does() for frame in walker.frames]))
        come_round = seeker.step(BIG)
        beats = walker.now - start
        if come_round:
            times = walker.rounds_ahead(seeker.mark, None)
            if times is None:
                told.append((start, None, beats, steps))
                return told
            seeker.leap(times)
        if seeker.mark.now > start:
            told.append((start, walker.now, beats, steps))
            start = walker.now
            steps = []


def leg_of(stretch, place):
    """Tell the leg of the frame at that place of its part."""
    start, end, beats, steps = stretch
    moments = []
    words = []
    for moment, doing in steps:
        if not words or words[-1] != doing[place]:
            moments.append(moment)
            words.append(doing[place])
    return Leg(start, end, beats, moments, words)
