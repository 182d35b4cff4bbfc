"""A yard written in rows, and read again (point 5)."""

from doffyard.errors import NoText
from doffyard.figures import minds_of, number_of, numbers_of
from doffyard.refusals import need_yard
from doffyard.yards import are_frames, are_hands, are_pieces, are_strays, is_rule, is_walk

NEVER = "-"


def show_yard(yard):
    """Tell the text of the yard."""
    need_yard(yard)
    frames, walks, pieces, rule, hands, strays = yard
    rows = [f"rule {rule}", with_word("pieces", pieces)]
    rows += [show_frame(frame) for frame in frames]
    rows += [with_word("walks", walk) for walk in walks]
    rows += [show_hand(hand) for hand in hands]
    rows += [with_word("stray", stray) for stray in strays]
    return "\n".join(rows)


def with_word(word, parts):
    """Write a row: the word, and the parts behind it."""
    return " ".join([word] + [str(part) for part in parts])


def show_frame(frame):
    """Write the row of a frame."""
    return with_word("frame", list(frame[:5]) + [f"{at}:{thread}" for at, thread in frame[5]])


def show_hand(hand):
    """Write the row of a hand."""
    frame, minds, start, end = hand
    return with_word("hand", [frame, "+".join([str(mind) for mind in minds]), start, NEVER if end is None else end])


def has_walks(parts):
    """Whether all frames, one at least, and their walks are told."""
    return len(parts["frame"]) > 0 and len(parts["frame"]) == len(parts["walks"])


# what the readers tell may be None, or have it in a word's place: whether it is a part of a yard is asked behind that
def read_rule(words):
    """Tell the rule that is the one word."""
    return words[0] if len(words) == 1 else None


def read_numbers(words):
    """Tell the tuple of the numbers that the words are."""
    return numbers_of(words)


def read_frame(words):
    """Tell what should be a frame by its words."""
    numbers = numbers_of(words[:5])
    if numbers is None:
        return None
    return numbers + (tuple(numbers_of(word.split(":")) for word in words[5:]),)


def read_hand(words):
    """Tell what should be a hand by its words."""
    if len(words) != 4:
        return None
    end = number_of(words[3])
    # None alone wouldn't tell a hand that never goes from a word that is no number
    if end is None and words[3] != NEVER:
        return None
    return (number_of(words[0]), minds_of(words[1]), number_of(words[2]), end)


def rule_fits(parts, part):
    """Whether it is a rule, told first."""
    return not parts["rule"] and is_rule(part)


def pieces_fit(parts, part):
    """Whether they are PIECES, told behind the rule."""
    if not parts["rule"] or parts["pieces"]:
        return False
    return are_pieces(part)


def frame_fits(parts, part):
    """Whether it is a frame, told ahead of all walks."""
    if not parts["pieces"] or parts["walks"]:
        return False
    return are_frames(tuple(parts["frame"]) + (part,))


def walks_fit(parts, part):
    """Whether they are the walks of the next frame."""
    many = len(parts["frame"])
    return len(parts["walks"]) < many and is_walk(part, len(parts["walks"]), many)


def hand_fits(parts, part):
    """Whether it is a hand, told behind all walks and ahead of all strays."""
    hands = tuple(parts["hand"]) + (part,)
    return has_walks(parts) and not parts["stray"] and are_hands(hands, len(parts["frame"]))


def stray_fits(parts, part):
    """Whether it is a stray, told behind all walks and above the one before it."""
    return has_walks(parts) and are_strays(tuple(parts["stray"]) + (part,), tuple(parts["frame"]))


READERS = {"rule": read_rule, "pieces": read_numbers, "frame": read_frame, "walks": read_numbers, "hand": read_hand,
           "stray": read_numbers}
FITS = {"rule": rule_fits, "pieces": pieces_fit, "frame": frame_fits, "walks": walks_fit, "hand": hand_fits,
        "stray": stray_fits}


def read_yard(text):
    """Tell the yard of the text."""
    if not isinstance(text, str):
        raise NoText(0)
    rows = text.split("\n")
    parts = {"rule": [], "pieces": [], "frame": [], "walks": [], "hand": [], "stray": []}
    for number, row in enumerate(rows):
        if not take_row(parts, row):
            raise NoText(number)
    if not has_walks(parts):
        raise NoText(len(rows))
    return (tuple(parts["frame"]), tuple(parts["walks"]), parts["pieces"][0], parts["rule"][0], tuple(parts["hand"]),
            tuple(parts["stray"]))


def take_row(parts, row):
    """Put what a row tells to the parts told before it; return whether they are the beginning of a yard's."""
    word, *words = row.split(" ")
    if word not in READERS:
        return False
    reader = READERS[word]
    fits = FITS[word]
    part = reader(words)
    if not fits(parts, part):
        return False
    parts[word].append(part)
    return True
