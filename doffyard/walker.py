"""Walks a yard in the turn of point 6, and tells what stands.

It leaps over no round on its own: who asks says how far, and the checker, too, may walk by it.
"""

from doffyard.frames import Frame
from doffyard.hands import Hand


class Walker:
    """Frames and hands of a yard, walked from moment 0 on; now is the moment behind the last beat walked.

    They may be some of the yard's alone, where no hand minds both one of these frames and another
    one whose threads may break.
    """

    def __init__(self, yard, frames, hands):
        told_frames, walks, pieces, rule, told_hands, strays = yard
        self.told = (yard, frames, hands)
        self.walks = walks
        self.pieces = pieces
        self.rule = rule
        self.seat([Frame(at, told_frames[at], strays_of(strays, at)) for at in frames],
                  [Hand(at, told_hands[at]) for at in hands])
        self.turns = turns_of(self.hands)
        self.turned = 0
        self.broken = []
        self.now = 0

    def seat(self, frames, hands):
        """Have these frames and hands."""
        self.frames = frames
        self.numbered = {frame.number: frame for frame in frames}
        self.hands = hands

    def twin(self):
        """Make another one at which all stands as at this one, and that goes its own way from now on."""
        yard, frames, hands = self.told
        other = Walker(yard, frames, hands)
        other.seat([frame.twin() for frame in self.frames], [hand.twin() for hand in self.hands])
        other.turned = self.turned
        other.broken = list(self.broken)
        other.now = self.now
        return other

    def step(self, most):
        """Walk one beat, and on, most beats at most, while they all go like it and nothing happens but behind the last.

        Of beats in which all stand, for ever or till a hand comes or goes, one is walked: it is a round by itself.
        """
        self.begin()
        beats = self.quiet(most)
        self.now += beats
        for frame in self.frames:
            for thread in frame.go_on(beats):
                self.broken.append((frame.number, thread, self.now))
        for hand in self.hands:
            if hand.job is not None:
                self.work(hand, beats)

    def begin(self):
        """Begin the beat behind now: hands come, go and take. To begin it again changes nothing."""
        if self.to_turn() == 0:
            self.turned += 1
            for hand in self.hands:
                hand.change(self.now)
        loose = self.loose()
        if not loose:
            return
        for hand in self.hands:
            if hand.is_idle():
                loose = self.take(hand, loose)

    def to_turn(self):
        """Tell how many beats are left to the next moment at which a hand comes or goes, None where there is none."""
        if self.turned == len(self.turns):
            return None
        return self.turns[self.turned] - self.now

    def loose(self):
        """Tell the broken threads that are in no hand, in the order of breaking."""
        if not self.broken:
            return []
        jobs = [hand.job for hand in self.hands if hand.job is not None]
        return [(frame, thread) for frame, thread, since in self.broken if (frame, thread) not in jobs]

    def take(self, hand, loose):
        """Let an idle hand take of the loose threads the one that is its by the rule; return those still loose."""
        minded = [thread for thread in loose if thread[0] in hand.minds]
        if not minded:
            return loose
        # min tells the first of alike ones, and that is the one that broke first
        job = min(minded, key=lambda thread: self.rank(hand, thread[0]))
        kind = self.numbered[job[0]].kind
        hand.take(job, self.walks[hand.at][job[0]] + self.pieces[kind])
        return [thread for thread in loose if thread != job]

    def rank(self, hand, frame):
        """Tell the number by which the hand would rather take a thread of this frame: the least is best."""
        if self.rule == "near":
            return self.walks[hand.at][frame]
        if self.rule == "sort":
            return self.numbered[frame].kind
        return 0

    def quiet(self, most):
        """Tell for how many beats, most at most, all go on alike from a beat that has begun."""
        ahead = [frame.quiet() for frame in self.frames]
        ahead += [hand.busy for hand in self.hands if hand.job is not None]
        beats = [some for some in ahead if some is not None]
        if not beats:
            return 1
        turn = self.to_turn()
        if turn is not None:
            beats.append(turn)
        return min(most, *beats)

    def work(self, hand, beats):
        """Let a busy hand be busy for so many beats, and the thread be whole that it is busy with to the end."""
        job = hand.work(beats)
        if job is None:
            return
        self.numbered[job[0]].mend(job[1])
        self.broken = [torn for torn in self.broken if torn[:2] != job]

    def hand_does(self, hand):
        """Tell the word of what a hand does in a beat that has begun."""
        if hand.at is None:
            return "away"
        if hand.job is None:
            return "idle"
        if hand.busy > self.pieces[self.numbered[hand.job[0]].kind]:
            return "walks"
        return "pieces"

    def count_met(self):
        """Tell how many strays, and moments at which hands come or go, lie behind."""
        return self.turned + sum([frame.met for frame in self.frames])

    def is_like(self, mark):
        """Whether all stands as at the mark, but for strays, comings and goings."""
        for frame, filled in zip(self.frames, mark.filled):
            if (frame.fill, frame.left) != filled:
                return False
        return broken_threads(self.broken) == mark.torn and [hand.posed() for hand in self.hands] == mark.held

    def rounds_ahead(self, mark, moment):
        """Tell how many rounds, like that from the mark to now, end by the moment and meet no stray, coming or going.

        Where the moment is None they may end whenever they do, and None is told where they go on for ever.
        """
        beats = self.now - mark.now
        times = []
        if moment is not None:
            times.append((moment - self.now) // beats)
        turn = self.to_turn()
        if turn is not None:
            times.append(turn // beats)
        for frame, spun in zip(self.frames, mark.spun_then):
            stray = frame.to_stray()
            if stray is not None and frame.spun > spun:
                times.append((stray - 1) // (frame.spun - spun))
        return min(times, default=None)

    def leap(self, mark, times):
        """Leap over so many rounds more, like that from the mark to now; none of them may meet anything."""
        beats = (self.now - mark.now) * times
        for frame, spun, lengths in zip(self.frames, mark.spun_then, mark.lengths_then):
            frame.spun += (frame.spun - spun) * times
            frame.lengths += (frame.lengths - lengths) * times
        # what was broken at the mark already is so all along the round, and so for ever
        self.broken = [(frame, thread, since + beats if since > mark.now else since)
                       for frame, thread, since in self.broken]
        self.now += beats


class Mark:
    """How a walker stood at a moment."""

    def __init__(self, walker):
        self.now = walker.now
        self.behind = walker.count_met()
        self.filled = [(frame.fill, frame.left) for frame in walker.frames]
        self.spun_then = [frame.spun for frame in walker.frames]
        self.lengths_then = [frame.lengths for frame in walker.frames]
        self.torn = broken_threads(walker.broken)
        self.held = [hand.posed() for hand in walker.hands]


def strays_of(strays, frame):
    """Tell the strays of a frame, (SPUN, THREAD), by SPUN."""
    return [(spun, thread) for number, spun, thread in strays if number == frame]


def turns_of(hands):
    """Tell the moments at which hands come or go, rising."""
    moments = [hand.start for hand in hands] + [hand.end for hand in hands if hand.end is not None]
    return sorted(set(moments))


def broken_threads(broken):
    """Tell the broken threads in their order, without when they broke."""
    return [(frame, thread) for frame, thread, since in broken]


def walk_to(walker, moment):
    """Walk to a moment that isn't before the walker's own, and leap over nothing."""
    while walker.now < moment:
        walker.step(moment - walker.now)


def frames_doing(walkers):
    """Tell what each frame does in the beat behind now, of walkers that have all of a yard between them."""
    words = {frame.number: frame.does() for walker in walkers for frame in walker.frames}
    return tuple(words[number] for number in range(len(words)))


def hands_doing(walkers):
    """Tell what each hand does in the beat behind now, of walkers that have all of a yard between them."""
    for walker in walkers:
        walker.begin()
    words = {hand.number: walker.hand_does(hand) for walker in walkers for hand in walker.hands}
    return tuple(words[number] for number in range(len(words)))


def what_stands(walkers):
    """Tell what stands, as in point 7, of walkers at one moment that have all of a yard between them."""
    frames = sorted([frame for walker in walkers for frame in walker.frames], key=lambda frame: frame.number)
    hands = sorted([hand for walker in walkers for hand in walker.hands], key=lambda hand: hand.number)
    broken = [torn for walker in walkers for torn in walker.broken]
    lengths = [sum([frame.lengths for frame in frames if frame.kind == kind]) for kind in range(2)]
    return (tuple((frame.spun, frame.fill, frame.left) for frame in frames),
            tuple(sorted(broken, key=lambda torn: (torn[2], torn[0], torn[1]))),
            tuple(hand.posed() for hand in hands), tuple(lengths))
