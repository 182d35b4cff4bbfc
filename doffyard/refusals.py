"""Refuses what is not of the kind that a question asks for."""

from doffyard.errors import NoFrame, NoHand, NoMany, NoMoment, NoStray, NoWait, NoYard
from doffyard.wholes import is_beat, is_count, is_moment, is_within
from doffyard.yards import is_yard

# how much more than its first beat the last one of a stretch may be
MOST_AHEAD = 400


def need_yard(thing):
    """Refuse what is no yard."""
    if not is_yard(thing):
        raise NoYard("this is no yard")


def need_moment(thing):
    """Refuse what is no moment."""
    if not is_moment(thing):
        raise NoMoment("a moment is a whole number from 0 to 10 ** 30")


def need_beat(thing):
    """Refuse what is no beat."""
    if not is_beat(thing):
        raise NoMoment("a beat is a whole number from 1 to 10 ** 30")


def need_stretch(first, last):
    """Refuse what are no beats, and those that aren't the first and the last one of a stretch that can be asked for."""
    need_beat(first)
    need_beat(last)
    if not first <= last <= first + MOST_AHEAD:
        raise NoMoment("the last beat is from the first one to 400 beats behind it")


def need_wait(thing):
    """Refuse what is no number of beats to wait."""
    if not is_count(thing):
        raise NoWait("a wait is a whole number from 0 on")


def need_many(thing):
    """Refuse what is no count of hands or doffers."""
    if not is_count(thing):
        raise NoMany("a count is a whole number from 0 on")


def need_frame(yard, thing):
    """Refuse what is no number of one of the yard's frames."""
    if not is_number_of(thing, yard[0]):
        raise NoFrame("this is no number of a frame")


def need_hand(yard, thing):
    """Refuse what is no number of one of the yard's hands."""
    if not is_number_of(thing, yard[4]):
        raise NoHand("this is no number of a hand")


def need_stray(yard, thing):
    """Refuse what is no number of one of the yard's strays."""
    if not is_number_of(thing, yard[5]):
        raise NoStray("this is no number of a stray")


def is_number_of(thing, parts):
    """Whether it is the number of one of the parts, from 0 on."""
    return is_within(thing, 0, len(parts) - 1)
