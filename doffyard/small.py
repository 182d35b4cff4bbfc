"""Small yards, and the worst that a story can bring (point 17)."""

from doffyard.errors import NoSmall, NoStory
from doffyard.stories import (breaks_by, first_standing, is_small_yard, may_break, next_standing, standings_of,
                              threads_in)


def is_small(thing):
    """Whether a thing of any kind is a small yard."""
    return is_small_yard(thing)


def played(small, story):
    """Tell the list of the breaks of a story."""
    need_small(small)
    standings = standings_of(small, story)
    if standings is None:
        raise NoStory("this is no story of the small yard")
    return breaks_by(standings, story)


def worst_story(small):
    """Tell ("waits", BEATS, STORY), or ("endless", STORY, ROUND)."""
    need_small(small)
    ways = Ways(small)
    waits = []
    for thread in threads_in(small):
        own = waits_for(ways, thread)
        lasting = [way for way in ways.ways_with(thread) if way not in own]
        if lasting:
            return endless_story(ways, lasting)
        waits.append(own)
    beats = max([max(own.values()) for own in waits])
    # none waits longer from here on, so it has just broken
    own, way = [(own, way) for own in waits for way in own if own[way] == beats][0]
    return ("waits", beats, ways.story_to(way) + longest_on(ways, own, way))


def need_small(thing):
    """Refuse what is no small yard."""
    if not is_small_yard(thing):
        raise NoSmall("this is no small yard")


class Ways:
    """All ways in which a small yard can come to stand, numbered from 0, the beginning.

    onward has for each way the pairs (threads that break behind the next beat, way behind it); earlier has the way
    and the threads by which it was first come to.
    """

    def __init__(self, small):
        self.standings = [first_standing(small)]
        self.earlier = [None]
        self.onward = []
        numbers = {self.standings[0]: 0}
        while len(self.onward) < len(self.standings):
            way = len(self.onward)
            standing = self.standings[way]
            pairs = []
            for torn in choices_of(may_break(small, standing)):
                after = next_standing(small, standing, torn)
                if after not in numbers:
                    numbers[after] = len(self.standings)
                    self.standings.append(after)
                    self.earlier.append((way, torn))
                pairs.append((torn, numbers[after]))
            self.onward.append(pairs)

    def ways_with(self, thread):
        """Tell the ways in which a thread is broken."""
        return [way for way, standing in enumerate(self.standings) if thread in standing[0]]

    def story_to(self, way):
        """Tell a story by which it comes to stand in this way."""
        beats = []
        while self.earlier[way] is not None:
            way, torn = self.earlier[way]
            beats.append(torn)
        return tuple(beats[::-1])


def choices_of(threads):
    """Tell all choices, rising tuples, of some of the threads or none."""
    told = [()]
    for thread in threads:
        told = told + [some + (thread,) for some in told]
    return told


def waits_for(ways, thread):
    """Tell for each way in which the thread is broken the most beats till it is whole.

    Left out are those ways from which it may stay broken for ever. A way is done once all are from which on it is
    still broken.
    """
    torn = {way: True for way in ways.ways_with(thread)}
    before = {way: [] for way in torn}
    open_ways = {}
    for way in torn:
        onward = [after for some, after in ways.onward[way] if after in torn]
        open_ways[way] = len(onward)
        for after in onward:
            before[after].append(way)
    ready = [way for way in torn if open_ways[way] == 0]
    waits = {}
    while ready:
        way = ready.pop()
        waits[way] = 1 + max([waits[after] for some, after in ways.onward[way] if after in torn], default=0)
        for earlier in before[way]:
            open_ways[earlier] -= 1
            if open_ways[earlier] == 0:
                ready.append(earlier)
    return waits


def longest_on(ways, waits, way):
    """Tell the beats of a story on from this way till the thread is whole that waits longest."""
    beats = []
    while way in waits:
        left = waits[way] - 1
        torn, way = [pair for pair in ways.onward[way] if waits.get(pair[1], 0) == left][0]
        beats.append(torn)
    return tuple(beats)


def endless_story(ways, lasting):
    """Tell ("endless", STORY, ROUND), by ways in which a thread is broken, from each of which on another one is."""
    within = {way: True for way in lasting}
    path = [lasting[0]]
    beats = []
    places = {}
    while path[-1] not in places:
        places[path[-1]] = len(beats)
        torn, way = [pair for pair in ways.onward[path[-1]] if pair[1] in within][0]
        beats.append(torn)
        path.append(way)
    return ("endless", ways.story_to(path[-1]), tuple(beats[places[path[-1]]:]))
