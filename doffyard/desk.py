"""A desk that is told rows of words and answers them with texts (point 22)."""

from doffyard.beats import frames_do, hands_do
from doffyard.checker import holds
from doffyard.errors import NoRow
from doffyard.events import next_event
from doffyard.figures import minds_of, number_of
from doffyard.keepers import Keeper
from doffyard.papers import paper_stands
from doffyard.rounds import round_of
from doffyard.waits import longest
from doffyard.yardtexts import show_yard


def say_run(keeper, parts):
    """Run to a moment."""
    keeper.run(parts[0])
    return "ok"


def say_go(keeper, parts):
    """Let a hand go."""
    keeper.go(parts[0])
    return "ok"


def say_stray(keeper, parts):
    """Put in a stray."""
    frame, spun, thread = parts
    keeper.put_stray(frame, spun, thread)
    return "ok"


def say_strike(keeper, parts):
    """Strike the last deed."""
    keeper.strike()
    return "ok"


def say_come(keeper, parts):
    """Let a hand come, and tell its number."""
    frame, minds = parts
    return str(keeper.come(frame, minds))


def say_now(keeper, parts):
    """Tell the moment."""
    return str(keeper.moment())


def say_do(keeper, parts):
    """Tell what each frame and then each hand does in a beat."""
    yard = keeper.yard()
    return " ".join(frames_do(yard, parts[0]) + hands_do(yard, parts[0]))


def say_broken(keeper, parts):
    """Tell the threads that are broken now."""
    broken = keeper.stands_now()[1]
    if not broken:
        return "none"
    return " ".join([f"{frame}:{thread}" for frame, thread, since in broken])


def say_lengths(keeper, parts):
    """Tell the lengths spun of both sorts."""
    first, second = keeper.stands_now()[3]
    return f"{first} {second}"


def say_next(keeper, parts):
    """Tell the next eventful beat."""
    beat = next_event(keeper.yard(), keeper.moment())
    return "never" if beat is None else str(beat)


def say_round(keeper, parts):
    """Tell where the round begins, and its beats."""
    lead, beats, lengths = round_of(keeper.yard())
    return f"{lead} {beats}"


def say_longest(keeper, parts):
    """Tell the most beats that a break waits."""
    told = longest(keeper.yard())
    return str(told[1]) if told[0] == "waits" else told[0]


def say_yard(keeper, parts):
    """Tell the yard's text in one row."""
    return show_yard(keeper.yard()).replace("\n", "; ")


def say_paper(keeper, parts):
    """Tell whether the checker takes the house's paper of what stands at a moment."""
    claim, paper = paper_stands(keeper.yard(), parts[0])
    return "holds" if holds(claim, paper) else "no"


# what stands behind each word: n a number, m MINDS
FORMS = {"run": "n", "go": "n", "stray": "nnn", "strike": "", "come": "nm", "now": "", "do": "n", "broken": "",
         "lengths": "", "next": "", "round": "", "longest": "", "yard": "", "paper": "n"}
ANSWERS = {"run": say_run, "go": say_go, "stray": say_stray, "strike": say_strike, "come": say_come, "now": say_now,
           "do": say_do, "broken": say_broken, "lengths": say_lengths, "next": say_next, "round": say_round,
           "longest": say_longest, "yard": say_yard, "paper": say_paper}


class Desk:
    """Has a keeper of a yard, and answers rows."""

    def __init__(self, yard):
        self.keeper = Keeper(yard)

    def say(self, row):
        """Answer a row with a text."""
        if not isinstance(row, str):
            raise NoRow("a row is a text")
        word, *words = row.split(" ")
        if word not in FORMS or len(words) != len(FORMS[word]):
            raise NoRow("this is none of the desk's rows")
        parts = [part_of(form, told) for form, told in zip(FORMS[word], words)]
        if None in parts:
            raise NoRow("a number or MINDS are not written so")
        answer = ANSWERS[word]
        return answer(self.keeper, parts)


def part_of(form, word):
    """Tell the number or MINDS that a word is; None where it isn't written so."""
    if form == "m":
        return minds_of(word)
    return number_of(word)
