"""How long breaks wait (point 11)."""

from doffyard.refusals import need_stretch, need_yard
from doffyard.runs import Seeker, parts_of, run_to
from doffyard.walker import Mark, Walker
from doffyard.wholes import BIG


def breaks(yard, first, last):
    """Tell the rising list of the breaks (BROKE, FRAME, THREAD, WHOLE) behind the beats from the first to the last."""
    need_yard(yard)
    need_stretch(first, last)
    told = []
    for frames, hands in parts_of(yard):
        told += breaks_in_part(Walker(yard, frames, hands), first, last)
    return sorted(told, key=place_of)


def longest(yard):
    """Tell ("none",), ("endless", BREAK) or ("waits", BEATS, BREAK) of the yard, for ever."""
    need_yard(yard)
    lasting = []
    longest_ones = []
    for frames, hands in parts_of(yard):
        watch = Watch(Walker(yard, frames, hands))
        lasting += watch.go_round()
        longest_ones += watch.longest_ones
    if lasting:
        return ("endless", min(lasting, key=place_of))
    if not longest_ones:
        return ("none",)
    most = first_longest(longest_ones)
    return ("waits", wait_of(most), most)


def place_of(torn):
    """Tell the parts of a break by which breaks stand in order."""
    return torn[:3]


def wait_of(torn):
    """Tell for how many beats a break waits that is whole in the end."""
    return torn[3] - torn[0]


def first_longest(torn):
    """Tell the break that waits longest, of alike ones the first."""
    return min(torn, key=lambda one: (-wait_of(one), place_of(one)))


def made_whole(walker, broken):
    """Tell the breaks of those threads, broken before a step, that are whole behind it."""
    return [(since, frame, thread, walker.now) for frame, thread, since in broken
            if (frame, thread, since) not in walker.broken]


def breaks_in_part(walker, first, last):
    """Tell the breaks of the part of a yard that a walker has, behind the beats from the first to the last."""
    run_to(walker, first - 1)
    told = []
    while walker.now < last:
        broken = list(walker.broken)
        walker.step(last - walker.now)
        told += [torn for torn in made_whole(walker, broken) if torn[0] >= first]
    asked = [torn for torn in walker.broken if torn[2] >= first]
    return told + run_till_whole(walker, asked)


def run_till_whole(walker, asked):
    """Take a walker on till these broken threads are whole or never will be; return their breaks.

    They are broken all along each round that is come to, for the mark is never before their breaking.
    """
    seeker = Seeker(walker)
    told = []
    while asked:
        come_round = seeker.step(BIG)
        told += made_whole(walker, asked)
        asked = [torn for torn in asked if torn in walker.broken]
        if come_round:
            times = walker.rounds_ahead(seeker.mark, None)
            if times is None:
                return told + [(since, frame, thread, None) for frame, thread, since in asked]
            seeker.leap(times)
    return told


class Watch:
    """Takes a walker on and keeps, in a list of one or none, the first break that waited longest till it was whole."""

    def __init__(self, walker):
        self.walker = walker
        self.seeker = Seeker(walker)
        self.longest_ones = []

    def go_round(self):
        """Go on till a round comes again for ever and what broke in it is whole; return the breaks that never are.

        Ahead of each leap a second round is walked, too: what broke in the first one and isn't whole at its end is so
        in the second, while the last one that is leapt over may have its breaks made whole otherwise.
        """
        mark = self.find_round()
        times = self.walker.rounds_ahead(mark, None)
        while times is not None:
            if times > 0:
                second = Mark(self.walker)
                self.walk(self.walker.now - mark.now)
                self.walker.leap(second, times - 1)
            self.seeker.put_mark(1)
            mark = self.find_round()
            times = self.walker.rounds_ahead(mark, None)
        self.walk(self.walker.now - mark.now)
        return [(since, frame, thread, None) for frame, thread, since in self.walker.broken if since <= mark.now]

    def find_round(self):
        """Go on till the walker has come round; return the mark from which on it has."""
        come_round = False
        while not come_round:
            broken = list(self.walker.broken)
            come_round = self.seeker.step(BIG)
            self.note(broken)
        return self.seeker.mark

    def walk(self, beats):
        """Go on for so many beats."""
        end = self.walker.now + beats
        while self.walker.now < end:
            broken = list(self.walker.broken)
            self.walker.step(end - self.walker.now)
            self.note(broken)

    def note(self, broken):
        """Note the breaks of those threads, broken before a step, that are whole behind it."""
        whole = made_whole(self.walker, broken)
        if whole:
            self.longest_ones = [first_longest(self.longest_ones + whole)]
