import copy
import random
import re
import unittest

from doffyard.errors import NoText, NoYard
from doffyard.yards import is_yard
from doffyard.yardtexts import read_yard, show_yard
from tests.yard_maker import ALWAYS, BIG, made, some_yard

NUMBER = "(?:0|[1-9][0-9]*)"
TWO = made([(0, 2, 1, 30, 9, ((1, 0), (1, 1), (30, 0))), (1, 4, 3, 1, 0, ())],
           [(1, (0, 1), 0, None), (0, (1,), 5, 6), (0, (0,), BIG - 1, BIG)], ((0, 1, 1), (0, BIG, 0), (1, 2, 3)),
           "near", ((0, 9), (3, 0)), (1, 9))
TEXT = "\n".join(("rule near", "pieces 1 9", "frame 0 2 1 30 9 1:0 1:1 30:0", "frame 1 4 3 1 0", "walks 0 9",
                  "walks 3 0", "hand 1 0+1 0 -", "hand 0 1 5 6", f"hand 0 0 {BIG - 1} {BIG}", "stray 0 1 1",
                  f"stray 0 {BIG} 0", "stray 1 2 3"))
LEAST = "rule old\npieces 1 1\nframe 0 1 0 1 0\nwalks 0"


def numbers(text):
    return tuple(int(one) for one in re.findall("[0-9]+", text))


def parsed(text):
    """The yard of a text by the tests' own reading, or None: each row by its form, all together by what a yard is."""
    forms = (("rule", "rule [a-z]+"), ("pieces", f"pieces(?: {NUMBER})*"),
             ("frame", f"frame(?: {NUMBER}){{5}}(?: {NUMBER}:{NUMBER})*"), ("walks", f"walks(?: {NUMBER})*"),
             ("hand", rf"hand {NUMBER} {NUMBER}(?:\+{NUMBER})* {NUMBER} (?:{NUMBER}|-)"),
             ("stray", f"stray(?: {NUMBER}){{3}}"))
    kinds, told = [], {word: [] for word, _ in forms}
    for row in text.split("\n"):
        words = [word for word, form in forms if re.fullmatch(form, row)]
        if not words:
            return None
        kinds.append([word for word, _ in forms].index(words[0]))
        told[words[0]].append(row)
    if kinds != sorted(kinds) or len(told["rule"]) != 1 or len(told["pieces"]) != 1:
        return None
    frames = []
    for row in told["frame"]:
        all_of_it = numbers(row)
        frames.append(all_of_it[:5] + (tuple(zip(all_of_it[5::2], all_of_it[6::2])),))
    hands = []
    for row in told["hand"]:
        _, frame, minds, first, last = row.split(" ")
        hands.append((int(frame), numbers(minds), int(first), None if last == "-" else int(last)))
    thing = (tuple(frames), tuple(numbers(row) for row in told["walks"]), numbers(told["pieces"][0]),
             told["rule"][0][5:], tuple(hands), tuple(numbers(row) for row in told["stray"]))
    return thing if is_yard(thing) else None


def is_beginning(rows):
    """Whether the rows are the beginning of some yard's: what such rows lack can always be put behind them."""
    rows = rows + ["rule old", "pieces 1 1", "frame 0 1 0 1 0"][len(rows):]
    frames = len([row for row in rows if row.startswith("frame")])
    walks = len([row for row in rows if row.startswith("walks")])
    return parsed("\n".join(rows + ["walks" + " 0" * frames] * (frames - walks))) is not None


def wrong_row(text):
    rows = text.split("\n")
    for at in range(len(rows)):
        if not is_beginning(rows[:at + 1]):
            return at
    return len(rows)


class Texts(unittest.TestCase):
    def refused(self, text, row):
        with self.assertRaises(NoText) as caught:
            read_yard(text)
        self.assertIs(type(caught.exception), NoText)
        self.assertEqual(caught.exception.row, row, text)
        self.assertIs(type(caught.exception.row), int)

    def as_by_own_reading(self, text):
        """Read or refused as the tests' own reading has it; return whether it is read."""
        wanted = parsed(text)
        if wanted is None:
            self.refused(text, wrong_row(text))
            return False
        self.assertEqual(read_yard(text), wanted, text)
        self.assertEqual(show_yard(wanted), text)
        return True

    def test_worked(self):
        self.assertEqual(show_yard(TWO), TEXT)
        self.assertEqual(read_yard(TEXT), TWO)
        self.assertEqual(read_yard(LEAST), made([(0, 1, 0, 1, 0, ())]))

    def test_there_and_back(self):
        source = random.Random(201)
        for _ in range(150):
            asked = some_yard(source, far=BIG, most_hands=16)
            text = show_yard(asked)
            self.assertIs(type(text), str)
            self.assertEqual(parsed(text), asked)
            self.assertEqual(read_yard(text), asked)
            self.assertTrue(is_yard(read_yard(text)))

    def test_yards_at_their_bounds(self):
        rows = tuple((at, thread) for at in (29, 30) for thread in range(4))
        full = (1, 4, 3, 30, 9, rows)
        hands = [(3, (0, 1, 2, 3), BIG - 1, BIG), (0, (3,), BIG, None)] + [ALWAYS] * 14
        strays = [(frame, spun, thread) for frame in (0, 3) for spun in (BIG - 1, BIG) for thread in range(4)]
        walks = tuple(tuple(0 if a == b else 9 for b in range(4)) for a in range(4))
        most = made([full] * 4, hands, strays, "sort", walks, (9, 9))
        for asked in (most, made([(0, 1, 0, 1, 0, ())]), made([full] * 3), made([full], [ALWAYS])):
            self.assertTrue(is_yard(asked))
            self.assertEqual(read_yard(show_yard(asked)), asked)
            self.assertEqual(parsed(show_yard(asked)), asked)

    def test_no_yards(self):
        for odd in (None, (), 7, TEXT, list(TWO), TWO[:5], TWO + ((),)):
            with self.assertRaises(NoYard):
                show_yard(odd)

    def test_no_texts(self):
        for odd in (None, True, False, 0, 7, b"", TEXT.encode(), (), (TEXT,), [TEXT], {}, set(), len, TWO):
            self.refused(odd, 0)

    def test_line_ends(self):
        self.refused("", 0)
        self.refused("\n", 0)
        self.refused("\n" + TEXT, 0)
        self.refused(TEXT + "\n", 12)
        self.refused(TEXT + "\n\n", 12)
        self.refused(TEXT.replace("\n", "\r\n"), 0)
        self.refused(TEXT + "\r", 11)
        self.refused(TEXT.replace("\n", "; "), 0)
        self.refused(TEXT.replace("\n", " "), 0)
        self.refused(TEXT.replace("\nwalks 0 9", "\x0bwalks 0 9"), 3)
        self.refused(TEXT.replace("\nwalks 0 9", "\u2028walks 0 9"), 3)

    def test_rows_that_are_lacking(self):
        rows = TEXT.split("\n")
        for many in range(1, 6):
            self.refused("\n".join(rows[:many]), many)
        for many in range(6, 13):
            self.assertEqual(show_yard(read_yard("\n".join(rows[:many]))), "\n".join(rows[:many]))

    def test_each_row_left_out_twice_and_elsewhere(self):
        rows = TEXT.split("\n")
        for at, row in enumerate(rows):
            rest = rows[:at] + rows[at + 1:]
            self.as_by_own_reading("\n".join(rest))
            self.as_by_own_reading("\n".join(rows[:at] + [row] + rows[at:]))
            for place in range(len(rest) + 1):
                self.as_by_own_reading("\n".join(rest[:place] + [row] + rest[place:]))

    def test_one_row_more(self):
        rows = TEXT.split("\n")
        more = ("", " ", "rule old", "pieces 1 1", "frame 0 2 1 30 9 1:0", "frame 0 1 0 1 0", "walks 0 9", "walks 0",
                "walks 0 0", "hand 0 0 0 -", "hand 2 0 0 -", "stray 0 1 0", "stray 1 9 0", "stray 1 2 3", "stray 0 1 2",
                "rules old", "Rule old", "x")
        good = 0
        for row in more:
            for place in range(len(rows) + 1):
                good += self.as_by_own_reading("\n".join(rows[:place] + [row] + rows[place:]))
        self.assertGreater(good, 5)

    def test_each_sign_left_out_exchanged_and_put_in(self):
        read = 0
        signs = " 0129+:-;\nax"
        for at in range(len(TEXT) + 1):
            rest = TEXT[at + 1:]
            if at < len(TEXT):
                read += self.as_by_own_reading(TEXT[:at] + rest)
            for sign in signs:
                read += self.as_by_own_reading(TEXT[:at] + sign + TEXT[at:])
                if at < len(TEXT) and TEXT[at] != sign:
                    read += self.as_by_own_reading(TEXT[:at] + sign + rest)
        self.assertGreater(read, 50)

    def test_signs_of_some_yards(self):
        source = random.Random(202)
        for _ in range(400):
            text = show_yard(some_yard(source, far=source.choice((9, BIG)), longest=9))
            for _ in range(source.randint(1, 2)):
                at = source.randrange(len(text))
                text = text[:at] + source.choice(("", text[at])) + source.choice(" 0123+:-\n") + text[at + 1:]
            self.as_by_own_reading(text)

    def test_noughts_ahead_and_other_figures(self):
        for old, new, row in (("pieces 1 9", "pieces 01 9", 1), ("pieces 1 9", "pieces 1 09", 1),
                              ("walks 0 9", "walks 00 9", 4), ("frame 0 2", "frame 00 2", 2), ("30:0", "30:00", 2),
                              ("1:0 ", "01:0 ", 2), ("0+1", "00+1", 6), ("0+1", "0+01", 6), ("5 6", "05 6", 7),
                              ("5 6", "5 06", 7), ("stray 1 2 3", "stray 1 2 03", 11), ("pieces 1 9", "pieces +1 9", 1),
                              ("pieces 1 9", "pieces 1_1 9", 1), ("pieces 1 9", "pieces \u0661 9", 1),
                              ("pieces 1 9", "pieces \u00b9 9", 1), ("pieces 1 9", "pieces 1.0 9", 1),
                              ("5 6", "5 -6", 7), ("5 6", "- 6", 7), ("5 6", "5 --", 7), ("5 6", "5 None", 7)):
            self.assertEqual(TEXT.count(old), 1, old)
            self.refused(TEXT.replace(old, new), row)

    def test_signs_between_at_odd_places(self):
        for old, new, row in (("0+1", "+0+1", 6), ("0+1", "0+1+", 6), ("0+1", "0++1", 6), ("0+1", "+", 6), ("0+1", "", 6),
                              ("0+1", "0 1", 6), ("0+1", "0,1", 6), ("0+1", "1+0", 6), ("0+1", "0+0", 6),
                              ("0+1", "0+1+2", 6), ("30:0", "30:", 2), ("30:0", ":0", 2), ("30:0", "30::0", 2),
                              ("30:0", "30:0:0", 2), ("30:0", "30", 2), ("30:0", "30:0 ", 2), ("30:0", "31:0", 2),
                              ("30:0", "0:0", 2), ("30:0", "30:2", 2), ("30:0", "1:1", 2), ("rule near", "rule Near", 0),
                              ("rule near", "rule", 0), ("rule near", "rule ", 0), ("rule near", "rule near near", 0),
                              ("rule near", "rule neat", 0), ("rule near", " rule near", 0), ("rule near", "rule near ", 0),
                              ("pieces 1 9", "pieces 1", 1), ("pieces 1 9", "pieces 1 9 9", 1), ("pieces 1 9", "pieces", 1),
                              ("pieces 1 9", "pieces 0 9", 1), ("pieces 1 9", "pieces 1 10", 1), ("walks 3 0", "walks 3 1", 5),
                              ("walks 3 0", "walks 3", 5), ("walks 3 0", "walks 3 0 0", 5), ("walks 0 9", "walks 0 10", 4)):
            self.assertEqual(TEXT.count(old), 1, old)
            self.refused(TEXT.replace(old, new), row)

    def test_well_written_but_the_beginning_of_none(self):
        rows = TEXT.split("\n")
        frame = "frame 0 1 0 1 0"
        head = ["rule old", "pieces 1 1"]
        self.refused("\n".join(head + [frame] * 5 + ["walks 0 0 0 0 0"] * 5), 6)
        self.refused("\n".join(head + [frame] * 5), 6)
        self.refused("\n".join(head + ["walks 0"]), 2)
        self.refused("\n".join(head + [frame] * 2 + ["walks 0 0"] * 3), 6)
        self.refused("\n".join(head + [frame] * 2 + ["walks 0 0", frame, "walks 0 0"]), 5)
        self.refused("\n".join(head + [frame, "walks 0 0"]), 3)
        self.refused("\n".join(head + [frame] * 2 + ["walks 0 0", "hand 0 0 0 -"]), 5)
        self.refused("\n".join(rows[:9] + ["hand 0 0 0 -"] * 14), 22)
        self.assertEqual(len(read_yard("\n".join(rows[:9] + ["hand 0 0 0 -"] * 13))[4]), 16)
        strays = [f"stray 0 {spun} 0" for spun in range(1, 18)]
        self.refused("\n".join(rows[:9] + strays), 25)
        self.assertEqual(len(read_yard("\n".join(rows[:9] + strays[:16]))[5]), 16)
        self.refused("\n".join(rows[:9] + ["stray 0 5 0", "stray 0 5 0"]), 10)
        self.refused("\n".join(rows[:9] + ["stray 0 5 1", "stray 0 5 0"]), 10)
        self.refused("\n".join(rows[:9] + ["stray 1 5 0", "stray 0 6 0"]), 10)
        self.refused("\n".join(rows[:9] + ["stray 0 5 2"]), 9)
        self.refused("\n".join(rows[:9] + ["stray 2 5 0"]), 9)
        self.refused("\n".join(rows[:9] + ["stray 0 0 0"]), 9)
        self.refused("\n".join(rows[:9] + [f"stray 0 {BIG + 1} 0"]), 9)
        self.refused("\n".join(rows[:9] + ["stray 0 5 0", "hand 0 0 0 -"]), 10)
        for hand in ("2 0 0 -", "0 2 0 -", "0 0 5 5", "0 0 5 4", f"0 0 0 {BIG + 1}", f"0 0 {BIG + 1} -", f"0 0 {BIG} {BIG}",
                     "0 0 0", "0 0 0 - -", "0 0 0 1 -"):
            self.refused("\n".join(rows[:6] + ["hand " + hand]), 6)
        for told in ("2 1 0 1 0", "0 0 0 1 0", "0 5 0 1 0", "0 2 2 1 0", "0 1 0 0 0", "0 1 0 31 0", "0 1 0 1 10", "0 1 0 1",
                     "0 1 0 1 0 0", "0 2 0 9 0 2:0 1:0", "0 2 0 9 0 1:1 1:0", "0 2 0 9 0 1:0 1:0",
                     "0 1 0 9 0 " + " ".join(f"{at}:0" for at in range(1, 10))):
            self.refused("\n".join(head + ["frame " + told]), 2)
            self.refused("\n".join(head + ["frame " + told, "walks 0"]), 2)

    def test_many_figures(self):
        for many in (32, 40, 1500):
            self.refused(TEXT.replace("stray 1 2 3", f"stray 1 {'9' * many} 3"), 11)
            self.refused(TEXT.replace("pieces 1", f"pieces {'1' * many}"), 1)

    def test_the_first_wrong_row_of_several(self):
        rows = TEXT.split("\n")
        for at in range(len(rows)):
            self.refused("\n".join(rows[:at] + ["?"] * (len(rows) - at)), at)
            self.refused("\n".join(rows[:at] + ["?"] + rows[at + 1:]), at)

    def test_what_is_handed_in_stays_and_the_same_is_told_again(self):
        kept = copy.deepcopy(TWO)
        self.assertEqual([show_yard(TWO) for _ in range(3)], [TEXT] * 3)
        self.assertEqual([read_yard(TEXT) for _ in range(3)], [TWO] * 3)
        self.assertEqual(TWO, kept)


if __name__ == "__main__":
    unittest.main()
