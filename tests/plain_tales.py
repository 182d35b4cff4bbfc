"""What happens in a yard, told off the tests' own walk by the words of points 8, 10, 11 and 19."""

from tests.plain_walk import frame_words, hands_in, leapt, one_beat, plain_round, there


def stretch(yard, first, last):
    """What stands at each moment from first - 1 to last, however far they are."""
    rows = [leapt(yard, first - 1)]
    for beat in range(first, last + 1):
        rows.append(one_beat(yard, rows[-1], beat))
    return rows


def is_eventful(yard, beat, before, after, earlier):
    """Whether the beat is eventful; earlier is what stood before the beat before it, None of beat 1."""
    for hand in yard[4]:
        if there(hand, beat) != (beat > 1 and there(hand, beat - 1)):
            return True
    for old, new in zip(before[2], hands_in(yard, before, beat)):
        if new is not None and new[1] is not None and (old is None or old[1] is None):
            return True
    if before[1] != after[1]:
        return True
    return earlier is not None and frame_words(yard, earlier) != frame_words(yard, before)


def eventful(yard, first, last):
    """The eventful beats from the first to the last."""
    low = max(first - 1, 1)
    rows = stretch(yard, low, last)
    told = []
    for beat in range(first, last + 1):
        earlier = rows[beat - 1 - low] if beat > 1 else None
        if is_eventful(yard, beat, rows[beat - low], rows[beat + 1 - low], earlier):
            told.append(beat)
    return told


def plain_spells(yard, frame, first, last):
    told = []
    for beat, row in enumerate(stretch(yard, first, last)[:-1], first):
        word = frame_words(yard, row)[frame]
        if told and told[-1][2] == word:
            told[-1] = (told[-1][0], beat, word)
        else:
            told.append((beat, beat, word))
    return told


def plain_doffings(yard, first, last):
    """The doffings that begin in these beats, each beat of them looked at."""
    low = max(first - 1, 1)
    rows = [frame_words(yard, row) for row in stretch(yard, low, last + 12)]
    told = []
    for at in range(len(yard[0])):
        for beat in range(first, last + 1):
            if rows[beat - low][at] == "doffed" and (beat == 1 or rows[beat - 1 - low][at] != "doffed"):
                end = beat
                while rows[end + 1 - low][at] == "doffed":
                    end += 1
                told.append((beat, end, at))
    return sorted(told)


def plain_breaks(yard, first, last, beats):
    """The breaks behind these beats, WHOLE None where it isn't whole so many beats behind the last."""
    rows = stretch(yard, first, last + beats)
    told = []
    for beat in range(first, last + 1):
        for frame, thread, since in rows[beat - first + 1][1]:
            if since == beat:
                ends = [end for end in range(beat + 1, last + beats + 1)
                        if (frame, thread, since) not in rows[end - first + 1][1]]
                told.append((since, frame, thread, ends[0] if ends else None))
    return sorted(told, key=lambda torn: torn[:3])


def all_breaks(yard, most):
    """All breaks of a yard's lead and its round; None where no round comes again by most beats."""
    found = plain_round(yard, most)
    if found is None:
        return None
    lead, beats, _ = found
    return plain_breaks(yard, 1, lead + beats, 2 * beats)


def longest_of(torn):
    """What is told of a yard, for ever, whose breaks are these."""
    lasting = [row for row in torn if row[3] is None]
    if lasting:
        return ("endless", lasting[0])
    if not torn:
        return ("none",)
    waits = max(whole - broke for broke, _, _, whole in torn)
    return ("waits", waits, [row for row in torn if row[3] - row[0] == waits][0])


def plain_longest(yard, most):
    """Of a yard, for ever; None where no round comes again by most beats."""
    torn = all_breaks(yard, most)
    return None if torn is None else longest_of(torn)
