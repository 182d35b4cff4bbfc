"""A hand as it goes."""


class Hand:
    """Where a hand is and what it is busy with; at is None while it isn't there."""

    def __init__(self, number, told):
        frame, minds, start, end = told
        self.told = told
        self.number = number
        self.home = frame
        self.minds = minds
        self.start = start
        self.end = end
        self.at = None
        self.job = None
        self.busy = 0

    def twin(self):
        """Make another one that stands as this one does."""
        other = Hand(self.number, self.told)
        other.at = self.at
        other.job = self.job
        other.busy = self.busy
        return other

    def change(self, now):
        """Come or go, where the beat behind the moment now is the one for it."""
        if self.start == now:
            self.at = self.home
        if self.end == now:
            self.at = None
            self.job = None
            self.busy = 0

    def is_idle(self):
        """Whether it is there and has no thread."""
        return self.at is not None and self.job is None

    def take(self, job, beats):
        """Be busy with a thread, (FRAME, THREAD), for so many beats."""
        self.job = job
        self.busy = beats

    def work(self, beats):
        """Be busy for so many beats of those left; return the thread that is whole by that, or None."""
        self.busy -= beats
        if self.busy > 0:
            return None
        job = self.job
        self.at = job[0]
        self.job = None
        return job

    def posed(self):
        """Tell how it stands: None, or (FRAME, JOB, LEFT)."""
        if self.at is None:
            return None
        return (self.at, self.job, self.busy)
