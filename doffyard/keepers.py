"""A yard that is kept under deeds (point 14)."""

from doffyard.errors import NoHand, NoMinds, NoMoment, NoSpun, NoStray, NoStrike, NoThread, TooMany
from doffyard.refusals import need_frame, need_hand, need_moment, need_yard
from doffyard.stands import stands
from doffyard.wholes import BIG, is_within
from doffyard.yards import MOST_HANDS, MOST_STRAYS, are_minds


class Keeper:
    """Has a yard and a moment; each yard from before a deed is kept, so that the deed may be struck."""

    def __init__(self, yard):
        need_yard(yard)
        self.kept = yard
        self.now = 0
        self.earlier = []

    def run(self, moment):
        """Run to a moment that isn't before the one that is now."""
        need_moment(moment)
        if moment < self.now:
            raise NoMoment("this moment is past")
        self.now = moment

    def come(self, frame, minds):
        """Let a hand come now, at the frame, to mind these; return its number."""
        need_frame(self.kept, frame)
        if not are_minds(minds, len(self.kept[0])):
            raise NoMinds("a hand minds a rising tuple of one or more frames")
        hands = self.kept[4]
        if len(hands) >= MOST_HANDS:
            raise TooMany("there are as many hands as can be")
        self.keep(hands + ((frame, minds, self.now, None),), self.kept[5])
        return len(hands)

    def go(self, hand):
        """Let a hand go now that is there."""
        need_hand(self.kept, hand)
        hands = self.kept[4]
        frame, minds, start, end = hands[hand]
        if start >= self.now or (end is not None and end <= self.now):
            raise NoHand("this hand cannot go now")
        self.keep(hands[:hand] + ((frame, minds, start, self.now),) + hands[hand + 1:], self.kept[5])

    def put_stray(self, frame, spun, thread):
        """Put in a stray that is yet to come."""
        need_frame(self.kept, frame)
        if not is_within(spun, self.stands_now()[0][frame][0] + 1, BIG):
            raise NoSpun("a stray's SPUN is above what the frame has spun now")
        if not is_within(thread, 0, self.kept[0][frame][1] - 1):
            raise NoThread("this is no number of a thread of the frame")
        strays = self.kept[5]
        if (frame, spun, thread) in strays:
            raise NoStray("this stray is there already")
        if len(strays) >= MOST_STRAYS:
            raise TooMany("there are as many strays as can be")
        self.keep(self.kept[4], tuple(sorted(strays + ((frame, spun, thread),))))

    def strike(self):
        """Strike the last deed that isn't struck."""
        if not self.earlier:
            raise NoStrike("there is no deed to strike")
        self.kept = self.earlier.pop()

    def yard(self):
        """Tell the yard as it is now."""
        return self.kept

    def moment(self):
        """Tell the moment that is now."""
        return self.now

    def stands_now(self):
        """Tell what stands now."""
        return stands(self.kept, self.now)

    def keep(self, hands, strays):
        """Have, by a deed, these hands and strays."""
        self.earlier.append(self.kept)
        self.kept = self.kept[:4] + (hands, strays)
