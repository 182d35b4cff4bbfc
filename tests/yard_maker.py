"""Yards for the tests, drawn by a seeded source so that each run draws the same."""

BIG = 10 ** 30


def rising(draws):
    return tuple(sorted(set(draws)))


def some_frame(source, longest=30):
    threads = source.randint(1, 4)
    full = source.randint(1, longest)
    rows = rising((source.randint(1, full), source.randrange(threads)) for _ in range(source.randint(0, 8)))
    return (source.randint(0, 1), threads, source.randrange(threads), full, source.choice((0, 0, 1, 2, 9)), rows)


def some_hand(source, many, far):
    minds = tuple(range(many))
    if source.random() < 0.5:
        minds = rising(source.randrange(many) for _ in range(source.randint(1, many)))
    first = source.choice((0, 0, 1, source.randint(0, far)))
    last = source.choice((None, first + 1, source.randint(first + 1, first + 40), source.randint(first + 1, far + 50)))
    if last is not None and last > BIG:
        last = None
    return (source.randrange(many), minds, first, last)


def some_yard(source, far=120, longest=30, most_frames=4, most_hands=4):
    """A yard whose strays, comings and goings lie from near to about far."""
    many = source.randint(1, most_frames)
    frames = tuple(some_frame(source, longest) for _ in range(many))
    high = source.choice((0, 3, 9))
    walks = tuple(tuple(0 if a == b else source.randint(0, high) for b in range(many)) for a in range(many))
    pieces = (source.randint(1, 9), source.randint(1, 9))
    hands = tuple(some_hand(source, many, far) for _ in range(source.randint(0, most_hands)))
    strays = []
    for _ in range(source.choice((0, 2, 5, 16))):
        frame = source.randrange(many)
        strays.append((frame, source.choice((source.randint(1, 60), source.randint(1, far))),
                       source.randrange(frames[frame][1])))
    return (frames, walks, pieces, source.choice(("near", "old", "sort")), hands, rising(strays))


ALWAYS = (0, (0,), 0, None)


def made(frames, hands=(), strays=(), rule="old", walks=None, pieces=(1, 1)):
    """A yard told part by part, with no walks where none are told."""
    if walks is None:
        walks = ((0,) * len(frames),) * len(frames)
    return (tuple(frames), walks, pieces, rule, tuple(hands), tuple(strays))


def changed(source, yard, far):
    """A yard like this one but for some thing, or this one itself."""
    frames, walks, pieces, rule, hands, strays = yard
    draw = source.randrange(7)
    if draw == 1 and strays:
        at = source.randrange(len(strays))
        strays = strays[:at] + strays[at + 1:]
    elif draw == 2 and hands:
        at = source.randrange(len(hands))
        frame, minds, first, _ = hands[at]
        if first < BIG:
            last = source.choice((None, source.randint(first + 1, min(BIG, first + far))))
            hands = hands[:at] + ((frame, minds, first, last),) + hands[at + 1:]
    elif draw == 3:
        rule = source.choice(("near", "old", "sort"))
    elif draw == 4:
        pieces = (source.randint(1, 9), pieces[1])
    elif draw == 5 and len(strays) < 16:
        frame = source.randrange(len(frames))
        strays = rising(strays + ((frame, source.randint(1, far), source.randrange(frames[frame][1])),))
    elif draw == 6:
        frame = source.randrange(len(frames))
        told = frames[frame][:4] + (source.randint(0, 9),) + frames[frame][5:]
        frames = frames[:frame] + (told,) + frames[frame + 1:]
    return (frames, walks, pieces, rule, hands, strays)


def lively_yard(source, far, most_frames=2):
    """A yard with hands that stay, so that what is met far off is met and tells."""
    many = source.randint(1, most_frames)
    frames = []
    for _ in range(many):
        sort, threads, most, full, doff, rows = some_frame(source, 5)
        frames.append((sort, threads, min(most, 1), full, doff, rows[:2]))
    high = source.choice((0, 2))
    walks = tuple(tuple(0 if a == b else source.randint(0, high) for b in range(many)) for a in range(many))
    hands = [(source.randrange(many), tuple(range(many)), 0, None)]
    hands += [some_hand(source, many, far) for _ in range(source.randrange(2))]
    strays = [(frame, source.randint(1, far), source.randrange(frames[frame][1]))
              for frame in range(many) for _ in range(source.randint(1, 4))]
    pieces = (source.randint(1, 5), source.randint(1, 5))
    return made(frames, hands, rising(strays), source.choice(("near", "old", "sort")), walks, pieces)
