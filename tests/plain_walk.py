"""A plain walk, beat by beat, written anew from the document's words: what the tests hold the program against."""


def start(yard):
    """What stands at moment 0."""
    frames, _, _, _, hands, _ = yard
    return (tuple((0, 0, 0) for _ in frames), (), tuple(None for _ in hands), (0, 0))


def there(hand, beat):
    _, _, first, last = hand
    return beat >= first + 1 and (last is None or beat <= last)


def hands_in(yard, standing, beat):
    """The hands in the beat, once they came, went and took, where standing stood before it: None or [at, job, left]."""
    frames, walks, pieces, rule, hands, _ = yard
    _, broken, hands_now, _ = standing
    now = []
    for hand, old in zip(hands, hands_now):
        if not there(hand, beat):
            now.append(None)
        elif there(hand, beat - 1) and beat > 1:
            now.append(list(old))
        else:
            now.append([hand[0], None, 0])

    for number, hand in enumerate(now):
        if hand is None or hand[1] is not None:
            continue
        held = [other[1] for other in now if other is not None]
        best = None
        for frame, thread, since in broken:
            if frame not in hands[number][1] or (frame, thread) in held:
                continue
            key = (since, frame, thread)
            if rule == "near":
                key = (walks[hand[0]][frame],) + key
            elif rule == "sort":
                key = (frames[frame][0],) + key
            if best is None or key < best[0]:
                best = (key, frame, thread)
        if best is not None:
            _, frame, thread = best
            hand[1] = (frame, thread)
            hand[2] = walks[hand[0]][frame] + pieces[frames[frame][0]]
    return now


def frame_words(yard, standing):
    """What each frame does in the beat before which standing stood."""
    words = []
    for at, frame in enumerate(yard[0]):
        down = len([torn for torn in standing[1] if torn[0] == at])
        words.append("doffed" if standing[0][at][2] > 0 else "stands" if down > frame[2] else "spins")
    return tuple(words)


def hand_words(yard, standing, beat):
    """What each hand does in the beat before which standing stood."""
    words = []
    for hand in hands_in(yard, standing, beat):
        if hand is None:
            words.append("away")
        elif hand[1] is None:
            words.append("idle")
        else:
            words.append("pieces" if hand[2] <= yard[2][yard[0][hand[1][0]][0]] else "walks")
    return tuple(words)


def one_beat(yard, standing, beat):
    """What stands behind the beat, where standing stood before it."""
    frames, _, _, _, _, strays = yard
    counts, broken, _, lengths = standing
    counts = [list(count) for count in counts]
    lengths = list(lengths)
    now = hands_in(yard, standing, beat)

    whole = {(at, thread) for at, frame in enumerate(frames) for thread in range(frame[1])}
    whole -= {torn[:2] for torn in broken}
    after = list(broken)
    for at, (sort, threads, most, full, doff, rows) in enumerate(frames):
        count = counts[at]
        mine = [thread for thread in range(threads) if (at, thread) in whole]
        if count[2] > 0:
            count[2] -= 1
        elif threads - len(mine) <= most:
            count[0] += 1
            count[1] += 1
            lengths[sort] += len(mine)
            for thread in mine:
                if (count[1], thread) in rows or (at, count[0], thread) in strays:
                    after.append((at, thread, beat))
            if count[1] == full:
                count[1] = 0
                count[2] = doff

    for hand in now:
        if hand is not None and hand[1] is not None:
            hand[2] -= 1
            if hand[2] == 0:
                after = [torn for torn in after if torn[:2] != hand[1]]
                hand[0] = hand[1][0]
                hand[1] = None

    return (tuple(tuple(count) for count in counts), tuple(after),
            tuple(None if hand is None else tuple(hand) for hand in now), tuple(lengths))


def walked(yard, moments):
    """What stands at each moment from 0 to the last one asked."""
    told = [start(yard)]
    for beat in range(1, moments + 1):
        told.append(one_beat(yard, told[-1], beat))
    return told


def alike_key(yard, standing, moment):
    """What must be the same at two moments for them to be alike."""
    strays = tuple(spun - standing[0][frame][0] if spun > standing[0][frame][0] else None
                   for frame, spun, _ in yard[5])
    edges = tuple(edge - moment if edge is not None and edge >= moment else None
                  for hand in yard[4] for edge in hand[2:])
    return (core(standing), strays, edges)


def plain_round(yard, most):
    """(LEAD, ROUND, LENGTHS) by keeping every moment to the most one; None where none comes again by then."""
    seen, told = {}, [start(yard)]
    for moment in range(most + 1):
        key = alike_key(yard, told[-1], moment)
        if key in seen:
            lead = seen[key]
            lengths = tuple(now - then for now, then in zip(told[-1][3], told[lead][3]))
            return (lead, moment - lead, lengths)
        seen[key] = moment
        told.append(one_beat(yard, told[-1], moment + 1))
    return None


def met(yard, standing, moment):
    """How many strays, comings and goings lie behind a moment."""
    past = sum(1 for frame, spun, _ in yard[5] if standing[0][frame][0] >= spun)
    for _, _, first, last in yard[4]:
        past += (moment > first) + (last is not None and moment > last)
    return past


def core(standing):
    frames, broken, hands, _ = standing
    return (tuple(frame[1:] for frame in frames), tuple(torn[:2] for torn in broken), hands)


def leapt(yard, moment):
    """What stands at a far moment."""
    return far_walk(yard, moment)[0]


def far_walk(yard, moment):
    """What stands at a far moment, and the legs (FROM, ROUND, TIMES) by which rounds were leapt over.

    Every moment of a stretch is kept till one is met again, then as many rounds are leapt as can be.
    """
    now, standing, seen, legs = 0, start(yard), {}, []
    while now < moment:
        was = met(yard, standing, now)
        key = core(standing)
        if key in seen:
            first, before = seen[key]
            beats, times = now - first, least_times(yard, now, standing, first, before, moment)
            standing = shifted(standing, before, first, beats * times, times)
            now += beats * times
            legs += [(first, beats, times)] if times > 0 else []
            seen = {}
            if now == moment:
                break
        seen[key] = (now, standing)
        standing = one_beat(yard, standing, now + 1)
        now += 1
        if met(yard, standing, now) != was:
            seen = {}
    return standing, tuple(legs)


def least_times(yard, now, standing, first, before, moment):
    beats = now - first
    ends = [moment] + [edge for hand in yard[4] for edge in hand[2:] if edge is not None and edge >= now]
    times = (min(ends) - now) // beats
    for frame, spun, _ in yard[5]:
        here, grown = standing[0][frame][0], standing[0][frame][0] - before[0][frame][0]
        if spun > here and grown > 0:
            times = min(times, (spun - here - 1) // grown)
    return times


def shifted(standing, before, first, beats, times):
    frames, broken, hands, lengths = standing
    frames = tuple((spun + (spun - old[0]) * times, fill, left) for (spun, fill, left), old in zip(frames, before[0]))
    broken = tuple((frame, thread, since + beats if since > first else since) for frame, thread, since in broken)
    lengths = tuple(length + (length - old) * times for length, old in zip(lengths, before[3]))
    return (frames, broken, hands, lengths)


def to_meeting(yard, now, standing, before, beats):
    """How many rounds like the one from before to standing meet nothing, None where they go on for ever."""
    times = [(edge - now) // beats for hand in yard[4] for edge in hand[2:] if edge is not None and edge >= now]
    for frame, spun, _ in yard[5]:
        here, grown = standing[0][frame][0], standing[0][frame][0] - before[0][frame][0]
        if spun > here and grown > 0:
            times.append((spun - here - 1) // grown)
    return min(times, default=None)


def both_leapt(yard, other):
    """(FIRST, LAST) of two yards, walked side by side; rounds are leapt over where both come again at once."""
    pair = (yard, other)
    now, stood, seen, unlike = 0, (start(yard), start(other)), {}, []
    while True:
        key = tuple(core(one) for one in stood)
        if key in seen:
            first, before = seen[key]
            beats = now - first
            times = [to_meeting(asked, now, one, old, beats) for asked, one, old in zip(pair, stood, before)]
            times = min((some for some in times if some is not None), default=None)
            some = [beat for beat in unlike if beat > first]
            if times is None:
                return (unlike[0] if unlike else None, None if some or not unlike else unlike[-1])
            stood = tuple(shifted(one, old, first, beats * times, times) for one, old in zip(stood, before))
            now += beats * times
            unlike += [beat + beats * times for beat in some[-1:]]
            seen = {}
        seen[key] = (now, stood)
        was = [met(asked, one, now) for asked, one in zip(pair, stood)]
        if frame_words(yard, stood[0]) != frame_words(other, stood[1]):
            unlike.append(now + 1)
        now += 1
        stood = tuple(one_beat(asked, one, now) for asked, one in zip(pair, stood))
        if [met(asked, one, now) for asked, one in zip(pair, stood)] != was:
            seen = {}
