"""Numbers as they are written in texts and rows (points 5 and 22)."""

FIGURES = "0123456789"
MOST_FIGURES = 31


def number_of(word):
    """Tell the number that a word is, in figures without noughts ahead but 0 itself; None where it is none."""
    if not 1 <= len(word) <= MOST_FIGURES or any(sign not in FIGURES for sign in word):
        return None
    if word[0] == "0" and word != "0":
        return None
    return int(word)


def numbers_of(words):
    """Tell the tuple of the numbers that the words are; None where one of them is none."""
    numbers = tuple(number_of(word) for word in words)
    if None in numbers:
        return None
    return numbers


def minds_of(word):
    """Tell the tuple of numbers that a word is, with + between them; None where it is none."""
    return numbers_of(word.split("+"))
