"""What stands at a moment (point 7)."""

from doffyard.refusals import need_moment, need_yard
from doffyard.runs import run_yard
from doffyard.walker import what_stands


def stands(yard, moment):
    """Tell what stands in the yard at the moment: (FRAMES, BROKEN, HANDS, LENGTHS)."""
    need_yard(yard)
    need_moment(moment)
    return what_stands(run_yard(yard, moment))
