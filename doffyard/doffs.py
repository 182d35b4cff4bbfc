"""What doffings are, and what shows how many doffers they want (point 19)."""

from doffyard.wholes import BIG, is_beat, is_rising, is_tuple_of, is_whole, is_within

MOST_DOFFS = 30
MOST_FRAMES = 4
MOST_DOFF = 9


def are_doffs(thing):
    """Whether a thing of any kind is a rising tuple of doffings (FROM, TO, FRAME)."""
    return is_tuple_of(thing, 0, MOST_DOFFS) and all(is_doffing(part) for part in thing) and is_rising(thing)


def is_doffing(thing):
    """Whether it is (FROM, TO, FRAME)."""
    if not is_tuple_of(thing, 3, 3):
        return False
    start, end, frame = thing
    return is_beat(start) and is_within(end, start, BIG + MOST_DOFF) and is_within(frame, 0, MOST_FRAMES - 1)


def going_on(doffs, beat):
    """Tell the numbers of the doffings that go on in a beat, rising."""
    return [number for number, (start, end, frame) in enumerate(doffs) if start <= beat <= end]


def is_doffers_plan(doffs, thing, many):
    """Whether a thing of any kind tells for each doffing its doffer, of so many, none of them at two at once."""
    if not (is_tuple_of(thing, len(doffs), len(doffs)) and all(is_within(part, 0, many - 1) for part in thing)):
        return False
    for start, end, frame in doffs:
        # two that go on at once do so in the beat in which the later one begins
        busy = [thing[number] for number in going_on(doffs, start)]
        if len(set(busy)) < len(busy):
            return False
    return True


def go_on_at_once(doffs, thing, many):
    """Whether a thing of any kind is a beat in which so many doffings go on."""
    return is_whole(thing) and len(going_on(doffs, thing)) == many
