"""The worst that can come in plain yards, and the fewest hands for them (points 15 and 16)."""

from doffyard.errors import NoPlain
from doffyard.plainness import fewest_for, has_pieces_alike, is_plain, most_wait
from doffyard.refusals import need_wait, need_yard


def plain_worst(yard):
    """Tell (BEATS, ROWS): the most beats that a break can wait in a plain yard, and ROWS by which one does.

    Behind beat 1 all threads break at once, and the last of them waits for all the others.
    """
    need_plain(yard)
    return (most_wait(yard), tuple(all_torn(frame[1]) for frame in yard[0]))


def all_torn(threads):
    """Tell the ROWS by which all of so many threads break behind beat 1."""
    return tuple((1, thread) for thread in range(threads))


def fewest_hands(yard, wait):
    """Tell the fewest hands with which no break waits longer, or None where no number of hands does."""
    need_plain(yard)
    if not has_pieces_alike(yard):
        raise NoPlain("the sorts aren't pieced in as many beats")
    need_wait(wait)
    return fewest_for(yard, wait)


def need_plain(yard):
    """Refuse what is no yard, and a yard that isn't plain."""
    need_yard(yard)
    if not is_plain(yard):
        raise NoPlain("this yard isn't plain")
