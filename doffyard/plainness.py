"""Which yards are plain, and how long a break can wait in them (points 15 and 16)."""

from doffyard.wholes import is_tuple_of


def is_plain(yard):
    """Whether the yard is plain."""
    frames, walks, pieces, rule, hands, strays = yard
    if rule != "old" or any(max(row) > 0 for row in walks):
        return False
    if not hands or any(not is_steady(hand, len(frames)) for hand in hands):
        return False
    return len(hands) == 1 or has_pieces_alike(yard)


def is_steady(hand, many):
    """Whether the hand is there from 0 on and on and minds all of so many frames."""
    frame, minds, start, end = hand
    return len(minds) == many and start == 0 and end is None


def has_pieces_alike(yard):
    """Whether threads of all its frames are pieced in as many beats."""
    return len(set(pieces_of_threads(yard))) == 1


def pieces_of_threads(yard):
    """Tell for each thread of the yard the beats in which it is pieced."""
    return [yard[2][frame[0]] for frame in yard[0] for thread in range(frame[1])]


def most_wait(yard):
    """Tell the most beats that a break can wait in a plain yard."""
    pieces = pieces_of_threads(yard)
    if len(yard[4]) == 1:
        return sum(pieces)
    return pieces[0] * divided_up(len(pieces), len(yard[4]))


def fewest_for(yard, wait):
    """Tell the fewest hands with which none waits longer, in a plain yard with PIECES alike; None where none do."""
    pieces = pieces_of_threads(yard)
    turns = wait // pieces[0]
    if turns == 0:
        return None
    return divided_up(len(pieces), turns)


def divided_up(some, other):
    """Tell the one divided by the other, rounded up."""
    return (some + other - 1) // other


def with_hands_from(yard, frame, many):
    """Tell the yard with, in the place of its hands, so many from the frame, from 0 on and on and minding all."""
    hand = (frame, tuple(range(len(yard[0]))), 0, None)
    return yard[:4] + ((hand,) * many, yard[5])


def with_rows(yard, rows):
    """Tell the yard with these ROWS and without strays; it is one only where they are as they should be.

    None where they aren't a tuple with something for each frame.
    """
    if not is_tuple_of(rows, len(yard[0]), len(yard[0])):
        return None
    frames = tuple(frame[:5] + (own,) for frame, own in zip(yard[0], rows))
    return (frames,) + yard[1:5] + ((),)
