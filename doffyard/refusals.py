"""Refuses what is not of the kind that a question asks for."""

from doffyard.errors import NoMoment, NoYard
from doffyard.wholes import is_moment
from doffyard.yards import is_yard


def need_yard(thing):
    """Refuse what is no yard."""
    if not is_yard(thing):
        raise NoYard("this is no yard")


def need_moment(thing):
    """Refuse what is no moment."""
    if not is_moment(thing):
        raise NoMoment("a moment is a whole number from 0 to 10 ** 30")
