"""A frame as it goes."""


class Frame:
    """What a frame has spun, how full its bobbins are, and which of its threads are whole.

    strays are its own, (SPUN, THREAD), by SPUN; met is how many of them its SPUN has come to.
    """

    def __init__(self, number, told, strays):
        kind, threads, most, full, doff, rows = told
        self.told = told
        self.number = number
        self.kind = kind
        self.most = most
        self.full = full
        self.doff = doff
        self.strays = strays
        self.breaking = threads_by_fill(rows)
        self.marks = next_marks(rows, full)
        self.whole = [True] * threads
        self.down = 0
        self.spun = 0
        self.fill = 0
        self.left = 0
        self.lengths = 0
        self.met = 0

    def twin(self):
        """Make another one that stands as this one does."""
        other = Frame(self.number, self.told, self.strays)
        other.whole = list(self.whole)
        other.down = self.down
        other.spun = self.spun
        other.fill = self.fill
        other.left = self.left
        other.lengths = self.lengths
        other.met = self.met
        return other

    def does(self):
        """Tell the word of what it does in the beat behind now."""
        if self.left > 0:
            return "doffed"
        if self.down > self.most:
            return "stands"
        return "spins"

    def to_stray(self):
        """Tell how much it has yet to spin to its next stray, None where there is none."""
        if self.met == len(self.strays):
            return None
        return self.strays[self.met][0] - self.spun

    def quiet(self):
        """Tell for how many beats it does the same and no thread of it breaks but behind the last, None for ever."""
        if self.left > 0:
            return self.left
        if self.down > self.most:
            return None
        beats = self.marks[self.fill] - self.fill
        ahead = self.to_stray()
        if ahead is None:
            return beats
        return min(beats, ahead)

    def go_on(self, beats):
        """Go on for so many quiet beats; return the threads that break behind the last one, rising."""
        if self.left > 0:
            self.left -= beats
            return []
        if self.down > self.most:
            return []
        self.spun += beats
        self.fill += beats
        self.lengths += beats * (len(self.whole) - self.down)
        torn = []
        if self.fill in self.breaking or self.to_stray() == 0:
            torn = self.tear()
        if self.fill == self.full:
            self.fill = 0
            self.left = self.doff
        return torn

    def tear(self):
        """Break the whole threads that a row or a stray has now; return them, rising."""
        struck = self.breaking.get(self.fill, ()) + self.meet_strays()
        torn = [thread for thread, whole in enumerate(self.whole) if whole and thread in struck]
        for thread in torn:
            self.whole[thread] = False
        self.down += len(torn)
        return torn

    def meet_strays(self):
        """Come to the strays of the SPUN that is now; return their threads."""
        struck = ()
        while self.to_stray() == 0:
            struck += (self.strays[self.met][1],)
            self.met += 1
        return struck

    def mend(self, thread):
        """Let a broken thread be whole."""
        self.whole[thread] = True
        self.down -= 1


def threads_by_fill(rows):
    """Tell, by each AT, the threads that break there."""
    threads = {}
    for at, thread in rows:
        threads[at] = threads.get(at, ()) + (thread,)
    return threads


def next_marks(rows, full):
    """Tell, for each FILL from 0 on, the next one at which threads may break or the bobbins are full."""
    marks = [at for at, thread in rows] + [full]
    return [min([mark for mark in marks if mark > fill]) for fill in range(full)]
