"""What a frame does, spell by spell (point 10)."""

from doffyard.refusals import need_frame, need_stretch, need_yard
from doffyard.runs import run_part


def spells(yard, frame, first, last):
    """Tell the list of the frame's spells (FROM, TO, WORD) in the beats from the first to the last."""
    need_yard(yard)
    need_frame(yard, frame)
    need_stretch(first, last)
    walker = run_part(yard, frame, first - 1)
    told = []
    while walker.now < last:
        start = walker.now + 1
        word = walker.numbered[frame].does()
        walker.step(last - walker.now)
        if told and told[-1][2] == word:
            start = told.pop()[0]
        told.append((start, walker.now, word))
    return told
