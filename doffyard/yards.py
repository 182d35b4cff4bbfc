"""What a yard is, part by part (point 4)."""

from doffyard.wholes import BIG, is_rising, is_tuple_of, is_within

RULES = ("near", "old", "sort")
MOST_HANDS = 16
MOST_STRAYS = 16


def is_yard(thing):
    """Whether a thing of any kind is a yard."""
    if not is_tuple_of(thing, 6, 6):
        return False
    frames, walks, pieces, rule, hands, strays = thing
    if not are_frames(frames):
        return False
    return (are_walks(walks, len(frames)) and are_pieces(pieces) and is_rule(rule)
            and are_hands(hands, len(frames)) and are_strays(strays, frames))


def are_frames(thing):
    """Whether it is a tuple of one to four frames."""
    return is_tuple_of(thing, 1, 4) and all(is_frame(part) for part in thing)


def is_frame(thing):
    """Whether it is (SORT, THREADS, MOST, FULL, DOFF, ROWS)."""
    if not is_tuple_of(thing, 6, 6):
        return False
    kind, threads, most, full, doff, rows = thing
    return (is_within(kind, 0, 1) and is_within(threads, 1, 4) and is_within(most, 0, threads - 1)
            and is_within(full, 1, 30) and is_within(doff, 0, 9) and are_rows(rows, full, threads))


def are_rows(thing, full, threads):
    """Whether it is a rising tuple of at most eight (AT, THREAD)."""
    return (is_tuple_of(thing, 0, 8) and all(is_row(part, full, threads) for part in thing)
            and is_rising(thing))


def is_row(thing, full, threads):
    """Whether it is (AT, THREAD) of a frame with that FULL and so many threads."""
    return is_tuple_of(thing, 2, 2) and is_within(thing[0], 1, full) and is_within(thing[1], 0, threads - 1)


def are_walks(thing, many):
    """Whether it has, for each of so many frames, the walks to each."""
    if not is_tuple_of(thing, many, many):
        return False
    return all(is_walk(part, at, many) for at, part in enumerate(thing))


def is_walk(thing, at, many):
    """Whether it is the tuple of the walks from the frame at to each of so many."""
    return is_tuple_of(thing, many, many) and all(is_within(part, 0, 9) for part in thing) and thing[at] == 0


def are_pieces(thing):
    """Whether it is the tuple of both sorts' beats of piecing."""
    return is_tuple_of(thing, 2, 2) and all(is_within(part, 1, 9) for part in thing)


def is_rule(thing):
    """Whether it is the word of a rule."""
    return isinstance(thing, str) and thing in RULES


def are_hands(thing, many):
    """Whether it is a tuple of at most sixteen hands in a yard of so many frames."""
    return is_tuple_of(thing, 0, MOST_HANDS) and all(is_hand(part, many) for part in thing)


def is_hand(thing, many):
    """Whether it is (FRAME, MINDS, FROM, TO) in a yard of so many frames."""
    if not is_tuple_of(thing, 4, 4):
        return False
    frame, minds, start, end = thing
    if not (is_within(frame, 0, many - 1) and are_minds(minds, many) and is_within(start, 0, BIG)):
        return False
    return end is None or is_within(end, start + 1, BIG)


def are_minds(thing, many):
    """Whether it is a rising tuple of one or more of so many frames."""
    return (is_tuple_of(thing, 1, many) and all(is_within(part, 0, many - 1) for part in thing)
            and is_rising(thing))


def are_strays(thing, frames):
    """Whether it is a rising tuple of at most sixteen strays in these frames."""
    return (is_tuple_of(thing, 0, MOST_STRAYS) and all(is_stray(part, frames) for part in thing)
            and is_rising(thing))


def is_stray(thing, frames):
    """Whether it is (FRAME, SPUN, THREAD), the thread one of that frame."""
    if not is_tuple_of(thing, 3, 3):
        return False
    frame, spun, thread = thing
    if not (is_within(frame, 0, len(frames) - 1) and is_within(spun, 1, BIG)):
        return False
    return is_within(thread, 0, frames[frame][1] - 1)
