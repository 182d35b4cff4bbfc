"""A plain walk, beat by beat, written anew from the document's words: what the tests hold the program against."""


def start(yard):
    """What stands at moment 0."""
    frames, _, _, _, hands, _ = yard
    return (tuple((0, 0, 0) for _ in frames), (), tuple(None for _ in hands), (0, 0))


def there(hand, beat):
    _, _, first, last = hand
    return beat >= first + 1 and (last is None or beat <= last)


def one_beat(yard, standing, beat):
    """What stands behind the beat, where standing stood before it."""
    frames, walks, pieces, rule, hands, strays = yard
    counts, broken, hands_now, lengths = standing
    counts = [list(count) for count in counts]
    lengths = list(lengths)

    now = []
    for hand, old in zip(hands, hands_now):
        if not there(hand, beat):
            now.append(None)
        elif there(hand, beat - 1) and beat > 1:
            now.append(list(old))
        else:
            now.append([hand[0], None, 0])

    for number, hand in enumerate(now):
        if hand is None or hand[1] is not None:
            continue
        held = [other[1] for other in now if other is not None]
        best = None
        for frame, thread, since in broken:
            if frame not in hands[number][1] or (frame, thread) in held:
                continue
            key = (since, frame, thread)
            if rule == "near":
                key = (walks[hand[0]][frame],) + key
            elif rule == "sort":
                key = (frames[frame][0],) + key
            if best is None or key < best[0]:
                best = (key, frame, thread)
        if best is not None:
            _, frame, thread = best
            hand[1] = (frame, thread)
            hand[2] = walks[hand[0]][frame] + pieces[frames[frame][0]]

    whole = {(at, thread) for at, frame in enumerate(frames) for thread in range(frame[1])}
    whole -= {torn[:2] for torn in broken}
    after = list(broken)
    for at, (sort, threads, most, full, doff, rows) in enumerate(frames):
        count = counts[at]
        mine = [thread for thread in range(threads) if (at, thread) in whole]
        if count[2] > 0:
            count[2] -= 1
        elif threads - len(mine) <= most:
            count[0] += 1
            count[1] += 1
            lengths[sort] += len(mine)
            for thread in mine:
                if (count[1], thread) in rows or (at, count[0], thread) in strays:
                    after.append((at, thread, beat))
            if count[1] == full:
                count[1] = 0
                count[2] = doff

    for hand in now:
        if hand is not None and hand[1] is not None:
            hand[2] -= 1
            if hand[2] == 0:
                after = [torn for torn in after if torn[:2] != hand[1]]
                hand[0] = hand[1][0]
                hand[1] = None

    return (tuple(tuple(count) for count in counts), tuple(after),
            tuple(None if hand is None else tuple(hand) for hand in now), tuple(lengths))


def walked(yard, moments):
    """What stands at each moment from 0 to the last one asked."""
    told = [start(yard)]
    for beat in range(1, moments + 1):
        told.append(one_beat(yard, told[-1], beat))
    return told


def met(yard, standing, moment):
    """How many strays, comings and goings lie behind a moment."""
    past = sum(1 for frame, spun, _ in yard[5] if standing[0][frame][0] >= spun)
    for _, _, first, last in yard[4]:
        past += (moment > first) + (last is not None and moment > last)
    return past


def core(standing):
    frames, broken, hands, _ = standing
    return (tuple(frame[1:] for frame in frames), tuple(torn[:2] for torn in broken), hands)


def leapt(yard, moment):
    """What stands at a far moment: every moment of a stretch is kept till one is met again, then rounds are leapt."""
    now, standing, seen = 0, start(yard), {}
    while now < moment:
        was = met(yard, standing, now)
        key = core(standing)
        if key in seen:
            first, before = seen[key]
            times = least_times(yard, now, standing, first, before, moment)
            standing = shifted(standing, before, first, (now - first) * times, times)
            now += (now - first) * times
            seen = {}
            if now == moment:
                break
        seen[key] = (now, standing)
        standing = one_beat(yard, standing, now + 1)
        now += 1
        if met(yard, standing, now) != was:
            seen = {}
    return standing


def least_times(yard, now, standing, first, before, moment):
    beats = now - first
    ends = [moment] + [edge for hand in yard[4] for edge in hand[2:] if edge is not None and edge >= now]
    times = (min(ends) - now) // beats
    for frame, spun, _ in yard[5]:
        here, grown = standing[0][frame][0], standing[0][frame][0] - before[0][frame][0]
        if spun > here and grown > 0:
            times = min(times, (spun - here - 1) // grown)
    return times


def shifted(standing, before, first, beats, times):
    frames, broken, hands, lengths = standing
    frames = tuple((spun + (spun - old[0]) * times, fill, left) for (spun, fill, left), old in zip(frames, before[0]))
    broken = tuple((frame, thread, since + beats if since > first else since) for frame, thread, since in broken)
    lengths = tuple(length + (length - old) * times for length, old in zip(lengths, before[3]))
    return (frames, broken, hands, lengths)
