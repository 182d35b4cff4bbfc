"""Yards for the tests, drawn by a seeded source so that each run draws the same."""

BIG = 10 ** 30


def rising(draws):
    return tuple(sorted(set(draws)))


def some_frame(source, longest=30):
    threads = source.randint(1, 4)
    full = source.randint(1, longest)
    rows = rising((source.randint(1, full), source.randrange(threads)) for _ in range(source.randint(0, 8)))
    return (source.randint(0, 1), threads, source.randrange(threads), full, source.choice((0, 0, 1, 2, 9)), rows)


def some_hand(source, many, far):
    minds = tuple(range(many))
    if source.random() < 0.5:
        minds = rising(source.randrange(many) for _ in range(source.randint(1, many)))
    first = source.choice((0, 0, 1, source.randint(0, far)))
    last = source.choice((None, first + 1, source.randint(first + 1, first + 40), source.randint(first + 1, far + 50)))
    if last is not None and last > BIG:
        last = None
    return (source.randrange(many), minds, first, last)


def some_yard(source, far=120, longest=30, most_frames=4, most_hands=4):
    """A yard whose strays, comings and goings lie from near to about far."""
    many = source.randint(1, most_frames)
    frames = tuple(some_frame(source, longest) for _ in range(many))
    high = source.choice((0, 3, 9))
    walks = tuple(tuple(0 if a == b else source.randint(0, high) for b in range(many)) for a in range(many))
    pieces = (source.randint(1, 9), source.randint(1, 9))
    hands = tuple(some_hand(source, many, far) for _ in range(source.randint(0, most_hands)))
    strays = []
    for _ in range(source.choice((0, 2, 5, 16))):
        frame = source.randrange(many)
        strays.append((frame, source.choice((source.randint(1, 60), source.randint(1, far))),
                       source.randrange(frames[frame][1])))
    return (frames, walks, pieces, source.choice(("near", "old", "sort")), hands, rising(strays))
