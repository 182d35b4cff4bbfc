"""Doffings, and the fewest doffers for them (point 19)."""

from doffyard.doffs import are_doffs, going_on
from doffyard.errors import NoDoffs
from doffyard.refusals import need_many, need_stretch, need_yard
from doffyard.runs import run_yard


def doffings(yard, first, last):
    """Tell the rising list of the doffings (FROM, TO, FRAME) that begin in the beats from the first to the last."""
    need_yard(yard)
    need_stretch(first, last)
    told = []
    for walker in run_yard(yard, first - 1):
        told += doffings_begun(walker)
        while walker.now < last - 1:
            walker.step(last - 1 - walker.now)
            told += doffings_begun(walker)
    return sorted(told)


def doffings_begun(walker):
    """Tell the doffings of a walker's frames that begin in the beat behind now."""
    return [(walker.now + 1, walker.now + frame.doff, frame.number) for frame in walker.frames
            if frame.doff > 0 and frame.left == frame.doff]


def least_doffers(doffs):
    """Tell (HOW, PLAN, BEAT): the fewest doffers, what each doffing's is, and a beat in which so many go on."""
    need_doffs(doffs)
    if not doffs:
        return (0, (), None)
    # the most go on at once in a beat in which one begins
    beat = max([doffing[0] for doffing in doffs], key=lambda start: len(going_on(doffs, start)))
    return (len(going_on(doffs, beat)), plan_of(doffs), beat)


def with_doffers(doffs, many):
    """Tell ("plan", PLAN) for so many doffers, or ("clash", BEAT, NUMBERS) where they are too few."""
    need_doffs(doffs)
    need_many(many)
    for start, end, frame in doffs:
        numbers = going_on(doffs, start)
        if len(numbers) > many:
            return ("clash", start, tuple(numbers))
    return ("plan", plan_of(doffs))


def need_doffs(thing):
    """Refuse what are no doffings."""
    if not are_doffs(thing):
        raise NoDoffs("these are no doffings")


def plan_of(doffs):
    """Tell for each doffing its doffer, each time the first one who is free as it begins: no fewer would do."""
    plan = []
    for number, (start, end, frame) in enumerate(doffs):
        busy = [plan[other] for other in going_on(doffs, start) if other < number]
        free = [doffer for doffer in range(len(doffs)) if doffer not in busy]
        plan.append(free[0])
    return tuple(plan)
