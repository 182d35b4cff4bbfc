"""Small yards walked beat by beat by the words of points 6 and 17: what the tests hold the program against."""

import itertools

from tests.plain_walk import frame_words, hands_in, start


def as_yard(small):
    """The small yard as a yard without rows, strays and doffing, with its one hand."""
    frames, walks, pieces, rule, _ = small
    many = len(frames)
    return (tuple((sort, threads, most, 30, 0, ()) for sort, threads, most in frames), walks, pieces, rule,
            ((0, tuple(range(many)), 0, None),), ())


class Play:
    """A small yard under a story: what stands, and how long each whole thread has spun since it became whole."""

    def __init__(self, small):
        self.yard, self.gap = as_yard(small), small[4]
        self.beat = 0
        self.standing = start(self.yard)
        self.spun = {(at, thread): 0 for at, frame in enumerate(small[0]) for thread in range(frame[1])}
        self.waits = {}

    def free(self):
        """The threads that may break behind the next beat."""
        words = frame_words(self.yard, self.standing)
        torn = [part[:2] for part in self.standing[1]]
        return [thread for thread in sorted(self.spun)
                if thread not in torn and words[thread[0]] == "spins" and self.spun[thread] + 1 > self.gap]

    def go(self, torn):
        """One beat, behind which these threads break."""
        self.beat += 1
        words = frame_words(self.yard, self.standing)
        hand = hands_in(self.yard, self.standing, self.beat)[0]
        broken = list(self.standing[1])
        for thread in self.spun:
            if words[thread[0]] == "spins" and thread not in [part[:2] for part in broken]:
                self.spun[thread] += 1
        broken += [thread + (self.beat,) for thread in torn]
        if hand[1] is not None:
            hand[2] -= 1
            if hand[2] == 0:
                done = [part for part in broken if part[:2] == hand[1]][0]
                broken.remove(done)
                self.spun[hand[1]] = 0
                self.waits[(done[2],) + done[:2]] = self.beat
                hand = [hand[1][0], None, 0]
        self.standing = (self.standing[0], tuple(broken), (tuple(hand),), (0, 0))

    def key(self):
        """How all stands, as far as it matters for what can come."""
        torn = [part[:2] for part in self.standing[1]]
        ahead = tuple(None if thread in torn else max(1, self.gap + 1 - self.spun[thread])
                      for thread in sorted(self.spun))
        hand = self.standing[2][0] or (0, None, 0)
        return (tuple(torn), hand, ahead)

    def ages(self):
        return tuple(self.beat - part[2] for part in self.standing[1])

    def twin(self):
        other = Play.__new__(Play)
        other.__dict__.update(self.__dict__, spun=dict(self.spun), waits=dict(self.waits))
        return other


def is_story(small, story):
    """Whether a tuple of tuples of threads is a story."""
    play = Play(small)
    for torn in story:
        if list(torn) != sorted(set(torn)) or not set(torn) <= set(play.free()):
            return False
        play.go(torn)
    return True


def breaks_of(small, story):
    """The breaks of a story."""
    play, told = Play(small), []
    for torn in story:
        play.go(torn)
        told += [(play.beat,) + thread for thread in torn]
    return [broke + (play.waits.get(broke),) for broke in sorted(told)]


def longest_by_all(small, beats):
    """The most beats that a break waits in any story of so many beats, and the most that one waits yet at its end."""
    plays, longest = {None: Play(small)}, 0
    for _ in range(beats):
        after = {}
        for play in plays.values():
            free = play.free()
            for many in range(len(free) + 1):
                for torn in itertools.combinations(free, many):
                    other = play.twin()
                    other.waits = {}
                    other.go(torn)
                    longest = max([longest] + [whole - key[0] for key, whole in other.waits.items()])
                    after[(other.key(), other.ages())] = other
        plays = after
    return longest, max(max(play.ages(), default=0) for play in plays.values())
