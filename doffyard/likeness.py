"""When two moments of a yard are alike (point 9), by what stands at them."""


def stand_alike(yard, moment, stood, other, stood_other):
    """Whether two moments are alike at which there stood, as in point 7, what is told with each."""
    return (bobbins_of(stood) == bobbins_of(stood_other) and torn_of(stood) == torn_of(stood_other)
            and stood[2] == stood_other[2] and to_strays(yard, stood) == to_strays(yard, stood_other)
            and to_turns(yard, moment) == to_turns(yard, other))


def bobbins_of(stood):
    """Tell FILL and LEFT of each frame."""
    return [(fill, left) for spun, fill, left in stood[0]]


def torn_of(stood):
    """Tell the broken threads in their order, without when they broke."""
    return [(frame, thread) for frame, thread, since in stood[1]]


def to_strays(yard, stood):
    """Tell what is still to be spun to each stray, None where its SPUN is reached."""
    told = []
    for frame, spun, thread in yard[5]:
        ahead = spun - stood[0][frame][0]
        told.append(ahead if ahead > 0 else None)
    return told


def to_turns(yard, moment):
    """Tell the beats left to each FROM and TO, None where it is past or there is none."""
    told = []
    for frame, minds, start, end in yard[4]:
        told.append(start - moment if start >= moment else None)
        told.append(end - moment if end is not None and end >= moment else None)
    return told
