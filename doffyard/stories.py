"""What small yards and stories are, and how a small yard goes by a story (point 17).

What stands in a small yard is a tuple (BROKEN, HAND, AHEAD): the broken threads in their order; (FRAME, JOB, LEFT) of
the hand as in point 7; and for each thread, in the order of frames, for how many beats it has yet to spin until it may
break, one at least, or 0 where it is broken.
"""

from doffyard.wholes import is_rising, is_tuple_of, is_whole, is_within
from doffyard.yards import are_pieces, are_walks, is_rule

MOST_THREADS = 3
MOST_BEATS = 3


def is_small_yard(thing):
    """Whether a thing of any kind is a small yard."""
    if not is_tuple_of(thing, 5, 5):
        return False
    frames, walks, pieces, rule, gap = thing
    if not are_small_frames(frames):
        return False
    return (are_walks(walks, len(frames)) and max([max(row) for row in walks]) <= MOST_BEATS
            and are_pieces(pieces) and max(pieces) <= MOST_BEATS and is_rule(rule) and is_within(gap, 0, 2))


def are_small_frames(thing):
    """Whether it is a tuple of one to three small frames with at most three threads in all."""
    return (is_tuple_of(thing, 1, 3) and all(is_small_frame(part) for part in thing)
            and sum([threads for kind, threads, most in thing]) <= MOST_THREADS)


def is_small_frame(thing):
    """Whether it is (SORT, THREADS, MOST)."""
    if not is_tuple_of(thing, 3, 3):
        return False
    kind, threads, most = thing
    return is_within(kind, 0, 1) and is_within(threads, 1, MOST_THREADS) and is_within(most, 0, threads - 1)


def threads_in(small):
    """Tell all threads, (FRAME, THREAD), rising."""
    return [(number, thread) for number, frame in enumerate(small[0]) for thread in range(frame[1])]


def first_standing(small):
    """Tell what stands at the beginning."""
    return ((), (0, None, 0), tuple(small[4] + 1 for thread in threads_in(small)))


def is_spinning(small, broken, frame):
    """Whether the frame spins in the beat before which these threads are broken."""
    down = len([thread for thread in broken if thread[0] == frame])
    return down <= small[0][frame][2]


def may_break(small, standing):
    """Tell the threads that may break behind the next beat, rising."""
    broken, hand, ahead = standing
    return [thread for thread, beats in zip(threads_in(small), ahead)
            if beats == 1 and is_spinning(small, broken, thread[0])]


def hand_takes(small, broken, hand):
    """Tell the hand as it is in the next beat, once it has taken a thread where it is idle and one is broken."""
    frames, walks, pieces, rule, gap = small
    at, job, left = hand
    if job is not None or not broken:
        return hand
    job = broken[0]
    # min tells the first of alike ones, and that is the one that broke first
    if rule == "near":
        job = min(broken, key=lambda thread: walks[at][thread[0]])
    if rule == "sort":
        job = min(broken, key=lambda thread: frames[thread[0]][0])
    return (at, job, walks[at][job[0]] + pieces[frames[job[0]][0]])


def next_standing(small, standing, torn):
    """Tell what stands behind the next beat, where these threads, that may, break behind it."""
    broken, hand, ahead = standing
    at, job, left = hand_takes(small, broken, hand)
    beats = {}
    for thread, some in zip(threads_in(small), ahead):
        beats[thread] = some
        if thread in torn:
            beats[thread] = 0
        elif some > 1 and is_spinning(small, broken, thread[0]):
            beats[thread] = some - 1
    after = broken + torn
    if job is not None:
        left -= 1
    if job is not None and left == 0:
        after = tuple(thread for thread in after if thread != job)
        beats[job] = small[4] + 1
        at = job[0]
        job = None
    return (after, (at, job, left), tuple(beats.values()))


def standings_of(small, story):
    """Tell what stands at each moment of a story, from 0 on; None where the thing, of any kind, is no story."""
    if not isinstance(story, tuple):
        return None
    told = [first_standing(small)]
    for torn in story:
        if not are_torn(torn, may_break(small, told[-1])):
            return None
        told.append(next_standing(small, told[-1], torn))
    return told


def are_torn(thing, free):
    """Whether it is a rising tuple of some of the threads that are free to break."""
    return isinstance(thing, tuple) and all(is_thread(part) and part in free for part in thing) and is_rising(thing)


def is_thread(thing):
    """Whether it is a tuple of two whole numbers."""
    return is_tuple_of(thing, 2, 2) and is_whole(thing[0]) and is_whole(thing[1])


def breaks_by(standings, story):
    """Tell the breaks (BROKE, FRAME, THREAD, WHOLE) of a story, rising, WHOLE None where it isn't whole at the end."""
    told = []
    since = {}
    for beat, torn in enumerate(story, start=1):
        for frame, thread in list(since):
            if (frame, thread) not in standings[beat][0]:
                told.append((since.pop((frame, thread)), frame, thread, beat))
        for thread in torn:
            since[thread] = beat
    told += [(since[thread], thread[0], thread[1], None) for thread in since]
    return sorted(told, key=lambda row: row[:3])
