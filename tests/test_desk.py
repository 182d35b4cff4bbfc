import copy
import random
import re
import unittest

from doffyard.beats import frames_do, hands_do
from doffyard.desk import Desk
from doffyard.errors import (DoffError, NoFrame, NoHand, NoMinds, NoMoment, NoRow, NoSpun, NoStray, NoStrike, NoThread,
                             NoYard, TooMany)
from doffyard.events import next_event
from doffyard.keepers import Keeper
from doffyard.rounds import round_of
from doffyard.stands import stands
from doffyard.waits import longest
from doffyard.yardtexts import read_yard, show_yard
from tests.plain_walk import leapt
from tests.test_keepers import TWO
from tests.test_papers import WIDE
from tests.yard_maker import ALWAYS, BIG, made, some_yard

NUMBER = "(?:0|[1-9][0-9]{0,30})"
FORMS = {"run": [NUMBER], "go": [NUMBER], "stray": [NUMBER] * 3, "strike": [], "come": [NUMBER, rf"{NUMBER}(?:\+{NUMBER})*"],
         "now": [], "do": [NUMBER], "broken": [], "lengths": [], "next": [], "round": [], "longest": [], "yard": [],
         "paper": [NUMBER]}
BARE = [word for word, parts in FORMS.items() if not parts]


def is_row(row):
    return any(re.fullmatch(" ".join([word] + parts), row) for word, parts in FORMS.items())


def by_functions(keeper, row):
    """What the row is answered with, by the functions and the tests' own keeper."""
    word, *parts = row.split(" ")
    yard, now = keeper.yard(), keeper.moment()
    if word == "come":
        return str(keeper.come(int(parts[0]), tuple(int(mind) for mind in parts[1].split("+"))))
    numbers = [int(part) for part in parts]
    deeds = {"run": keeper.run, "go": keeper.go, "stray": keeper.put_stray, "strike": keeper.strike}
    if word in deeds:
        deeds[word](*numbers)
        return "ok"
    if word == "do":
        return " ".join(frames_do(yard, numbers[0]) + hands_do(yard, numbers[0]))
    if word == "paper":
        stands(yard, numbers[0])
        return "holds"
    told = stands(yard, now)
    answers = {"now": lambda: f"{now}", "lengths": lambda: f"{told[3][0]} {told[3][1]}",
               "broken": lambda: " ".join(f"{frame}:{thread}" for frame, thread, _ in told[1]) or "none",
               "next": lambda: str(next_event(yard, now) or "never"), "round": lambda: "{} {}".format(*round_of(yard)),
               "longest": lambda: str((longest(yard) if longest(yard)[0] != "waits" else longest(yard)[1:])[0]),
               "yard": lambda: show_yard(yard).replace("\n", "; ")}
    return answers[word]()


class Answered(unittest.TestCase):
    def say(self, desk, row, wanted):
        told = desk.say(row)
        self.assertIs(type(told), str)
        self.assertEqual(told, wanted, row)

    def refused(self, desk, refusal, row):
        """Refused with just that class, and nothing is changed."""
        before = [desk.say(ask) for ask in ("now", "yard", "broken")]
        with self.assertRaises(DoffError) as caught:
            desk.say(row)
        self.assertIs(type(caught.exception), refusal, row)
        self.assertEqual([desk.say(ask) for ask in ("now", "yard", "broken")], before)


class Worked(Answered):
    def test_each_row(self):
        desk = Desk(made([(0, 1, 0, 3, 2, ((2, 0),)), (1, 2, 0, 30, 0, ())], [(0, (0, 1), 0, None)], pieces=(2, 5)))
        for row, wanted in (("now", "0"), ("broken", "none"), ("lengths", "0 0"), ("next", "1"),
                            ("longest", "2"), ("do 1", "spins spins idle"), ("do 3", "stands spins pieces"), ("run 3", "ok"),
                            ("now", "3"), ("broken", "0:0"), ("lengths", "2 6"), ("next", "4"), ("stray 1 6 1", "ok"),
                            ("come 1 0+1", "1"), ("come 0 1", "2"), ("run 6", "ok"), ("broken", "1:1"), ("next", "7"),
                            ("longest", "5"), ("go 1", "ok"), ("longest", "5"), ("strike", "ok"), ("strike", "ok"),
                            ("go 2", None), ("run 7", "ok"), ("now", "7"), ("paper 0", "holds"), (f"paper {BIG}", "holds"),
                            ("yard", "rule old; pieces 2 5; frame 0 1 0 3 2 2:0; frame 1 2 0 30 0; walks 0 0; walks 0 0; "
                                     "hand 0 0+1 0 -; hand 1 0+1 3 -; stray 1 6 1")):
            if wanted is None:
                self.refused(desk, NoHand, row)
            else:
                self.say(desk, row, wanted)
        asked = made([(0, 1, 0, 3, 2, ((2, 0),))], [ALWAYS], pieces=(2, 5))
        self.say(Desk(asked), "round", "1 7")

    def test_words_of_ends(self):
        still = Desk(made([(0, 1, 0, 30, 0, ())]))
        self.say(still, "next", "never")
        self.say(still, "longest", "none")
        self.say(still, "do 5", "spins")
        self.say(still, "round", "0 30")
        torn = Desk(made([(0, 2, 1, 4, 0, ((3, 1), (4, 0)))]))
        self.say(torn, "longest", "endless")
        self.say(torn, "run 4", "ok")
        self.say(torn, "broken", "0:1 0:0")
        self.say(torn, "next", "5")
        self.say(torn, f"run {BIG}", "ok")
        self.say(torn, "next", "never")
        self.say(torn, "now", str(BIG))

    def test_broken_in_the_order_of_breaking(self):
        desk = Desk(made([(0, 2, 1, 30, 0, ((5, 0), (3, 1))[::-1]), (0, 1, 0, 30, 0, ((3, 0),))]))
        self.say(desk, "run 9", "ok")
        self.say(desk, "broken", "0:1 1:0 0:0")

    def test_yard_read_again(self):
        source = random.Random(271)
        for _ in range(30):
            asked = some_yard(source, far=BIG)
            self.assertEqual(read_yard(Desk(asked).say("yard").replace("; ", "\n")), asked)

    def test_no_yards(self):
        for odd in (None, (), 7, "now", list(TWO), TWO[:5]):
            with self.assertRaises(NoYard):
                Desk(odd)


class Against(Answered):
    def test_by_the_functions(self):
        source = random.Random(272)
        seen = set()
        for far in (30, 30, 30, 10 ** 12, BIG // 60):
            asked = some_yard(source, far=60, longest=5, most_frames=2, most_hands=2)
            desk, keeper = Desk(asked), Keeper(asked)
            for _ in range(60):
                row = some_row(source, keeper, far)
                try:
                    wanted = by_functions(keeper, row)
                except DoffError as refusal:
                    seen.add(type(refusal).__name__)
                    self.refused(desk, type(refusal), row)
                else:
                    seen.add(row.split(" ")[0])
                    self.say(desk, row, wanted)
            self.assertEqual(leapt(keeper.yard(), keeper.moment())[3], tuple(map(int, desk.say("lengths").split(" "))))
        self.assertLessEqual(set(FORMS), seen)
        self.assertLessEqual({"NoMoment", "NoHand", "NoSpun", "NoFrame", "NoStrike"}, seen)

    def test_two_desks_by_turns(self):
        source = random.Random(273)
        desks, keepers = [Desk(TWO), Desk(TWO)], [Keeper(TWO), Keeper(TWO)]
        for turn in range(80):
            at = source.randrange(2)
            row = some_row(source, keepers[at], 20)
            try:
                wanted = by_functions(keepers[at], row)
            except DoffError as refusal:
                self.refused(desks[at], type(refusal), row)
            else:
                self.say(desks[at], row, wanted)
        for desk, keeper in zip(desks, keepers):
            self.say(desk, "yard", by_functions(keeper, "yard"))
            self.say(desk, "now", str(keeper.moment()))

    def test_all_deeds_struck(self):
        desk = Desk(TWO)
        before = desk.say("yard")
        rows = ("run 3", "come 0 0", "stray 0 50 1", "run 9", "go 2", "come 1 0+1", "stray 1 99 2", "run 12", "go 0")
        for row in rows:
            desk.say(row)
        self.assertNotEqual(desk.say("yard"), before)
        for _ in range(6):
            self.say(desk, "strike", "ok")
        self.say(desk, "yard", before)
        self.say(desk, "now", "12")
        self.say(desk, "broken", by_functions(at_moment(TWO, 12), "broken"))
        self.refused(desk, NoStrike, "strike")

    def test_what_is_handed_in_stays(self):
        handed = copy.deepcopy(TWO)
        desk = Desk(handed)
        for row in ("run 9", "come 0 0", "stray 0 50 1", "longest", f"paper {BIG}"):
            desk.say(row)
        self.assertEqual(handed, TWO)


def at_moment(asked, moment):
    keeper = Keeper(asked)
    keeper.run(moment)
    return keeper


def some_row(source, keeper, far):
    word = source.choice(list(FORMS))
    now = keeper.moment()
    frames = len(keeper.yard()[0])
    if word in BARE:
        return word
    if word == "come":
        minds = source.choice(("0", "0+1", "1", "0+0", "1+0", "0+1+2"))
        return f"come {source.randint(0, frames)} {minds}"
    if word == "stray":
        frame = source.randint(0, frames)
        spun = stands(keeper.yard(), now)[0][frame][0] if frame < frames else 0
        return f"stray {frame} {spun + source.randint(0, 9)} {source.randrange(4)}"
    if word == "go":
        return f"go {source.randint(0, len(keeper.yard()[4]))}"
    return f"{word} {max(0, now + source.randint(-1, far))}"


class Refused(Answered):
    def test_what_is_no_text(self):
        desk = Desk(TWO)
        for odd in (None, True, 0, 7, b"now", ("now",), ["now"], {}, set(), len, TWO):
            self.refused(desk, NoRow, odd)

    def test_words(self):
        desk = Desk(TWO)
        desk.say("run 8")
        for row in ("", " ", "  ", "Now", "nows", "no", "now ", " now", "now now", "now 1", "\n", "now\n", "now\t", "run", "run ",
                    "run  9", "run 9 ", " run 9", "run 9 9", "run nine", "run\t9", "run +9", "run -9", "run 9.0", "run 9,0",
                    "run 09", "run 00", "run 9_0", "run None", "do", "do 1 2", "go", "go a", "stray 0 90", "stray 0 90 0 0",
                    "stray 0  90 0", "stray a 90 0", "stray 0 a 0", "stray 0 90 a", "strike 1", "come 0", "come 0 ", "come 0 0 1",
                    "come 0 +", "come 0 0+", "come 0 +0", "come 0 0++1", "come 0 0,1", "come 0 00", "come 0 0+01", "come a 0",
                    "come 0 a", "come 0 (0,)", "paper", "paper x", "paper 1 1", "yard 0", "put_stray 0 90 0", "moment", "stands",
                    "come  0", "run \u0669", "run \u00b2", "run \uff19", "now\x0b", "now\u00a0", "say now", "none"):
            self.refused(desk, NoRow, row)

    def test_figures(self):
        desk = Desk(TWO)
        for word in ("run", "do", "paper"):
            self.refused(desk, NoMoment, f"{word} {'9' * 31}")
            for many in (32, 33, 40, 1500):
                self.refused(desk, NoRow, f"{word} {'9' * many}")
                self.refused(desk, NoRow, f"{word} {'0' * many}")
            self.refused(desk, NoMoment, f"{word} {BIG + 1}")
        self.refused(desk, NoHand, "go " + "9" * 31)
        self.refused(desk, NoRow, "go " + "9" * 32)
        self.refused(desk, NoMinds, "come 0 " + "9" * 31)
        self.refused(desk, NoMinds, "come 0 0+" + "9" * 31)
        self.refused(desk, NoRow, "come 0 0+" + "9" * 32)
        self.refused(desk, NoRow, "come 0 " + "9" * 32)
        self.refused(desk, NoFrame, "come " + "9" * 31 + " 0")
        self.refused(desk, NoRow, "come " + "9" * 32 + " 0")
        for at in range(3):
            parts = ["0", "90", "0"]
            parts[at] = "9" * 31
            self.refused(desk, (NoFrame, NoSpun, NoThread)[at], "stray " + " ".join(parts))
            parts[at] = "9" * 32
            self.refused(desk, NoRow, "stray " + " ".join(parts))
        self.say(desk, f"run {BIG}", "ok")
        self.assertEqual(len(str(BIG)), 31)

    def test_then_as_the_functions_refuse(self):
        desk = Desk(TWO)
        desk.say("run 20")
        for row, refusal in (("run 19", NoMoment), ("do 0", NoMoment), ("go 2", NoHand), ("go 9", NoHand), ("strike", NoStrike),
                             ("come 2 0", NoFrame), ("come 2 9", NoFrame), ("come 0 2", NoMinds), ("come 0 1+0", NoMinds),
                             ("come 0 0+0", NoMinds), ("stray 2 0 9", NoFrame), ("stray 0 0 9", NoSpun),
                             ("stray 0 900 2", NoThread), ("stray 1 900 3", NoThread)):
            self.refused(desk, refusal, row)
        desk.say("stray 0 900 1")
        self.refused(desk, NoStray, "stray 0 900 1")
        for number in range(2, 16):
            self.say(desk, "come 0 0", str(number))
        self.refused(desk, TooMany, "come 0 0")
        self.refused(desk, NoMinds, "come 0 9")
        self.refused(desk, NoRow, "come 0 09")
        for spun in range(901, 914):
            self.say(desk, f"stray 0 {spun} 1", "ok")
        self.refused(desk, TooMany, "stray 0 999 1")

    def test_no_row_ahead_of_all_else(self):
        desk = Desk(TWO)
        desk.say("run 20")
        for row in ("run 019", "go 09", "come 9 a", "stray 9 0 a", "strike ", "do 00", "stray 9 9 9 9", "come 2 0+"):
            self.refused(desk, NoRow, row)

    def test_a_paper_that_the_house_has_not(self):
        self.refused(Desk(WIDE), NoMoment, f"paper {BIG}")
        self.say(Desk(WIDE), "paper 2000", "holds")

    def test_each_sign_left_out_exchanged_and_put_in(self):
        good, bad = 0, 0
        rows = BARE + ["run 30", "go 0", "stray 0 90 1", "come 1 0+1", "do 12", "paper 40"]
        for row in rows:
            others = {row[:at] + row[at + 1:] for at in range(len(row))}
            for sign in " 0129+:-ax\n":
                others |= {row[:at] + sign + row[at:] for at in range(len(row) + 1)}
                others |= {row[:at] + sign + row[at + 1:] for at in range(len(row))}
            for other in sorted(others):
                keeper, desk = at_moment(TWO, 10), Desk(TWO)
                desk.say("run 10")
                if not is_row(other):
                    bad += 1
                    self.refused(desk, NoRow, other)
                    continue
                good += 1
                try:
                    wanted = by_functions(keeper, other)
                except DoffError as refusal:
                    self.refused(desk, type(refusal), other)
                else:
                    self.say(desk, other, wanted)
                    self.say(desk, "yard", by_functions(keeper, "yard"))
        self.assertGreater(good, 80)
        self.assertGreater(bad, 1000)


if __name__ == "__main__":
    unittest.main()
