"""What each frame and each hand does in a beat (points 6 and 7)."""

from doffyard.refusals import need_beat, need_yard
from doffyard.runs import run_yard
from doffyard.walker import frames_doing, hands_doing


def frames_do(yard, beat):
    """Tell for each frame the word of what it does in the beat."""
    need_yard(yard)
    need_beat(beat)
    return frames_doing(run_yard(yard, beat - 1))


def hands_do(yard, beat):
    """Tell for each hand the word of what it does in the beat."""
    need_yard(yard)
    need_beat(beat)
    return hands_doing(run_yard(yard, beat - 1))
