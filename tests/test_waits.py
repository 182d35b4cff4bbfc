import copy
import random
import unittest

from doffyard.errors import NoMoment, NoYard
from doffyard.waits import breaks, longest
from tests.plain_tales import all_breaks, longest_of, plain_breaks, plain_longest
from tests.plain_walk import leapt, plain_round
from tests.test_checker_legs import SEVEN
from tests.test_doffings import NO_BEATS
from tests.yard_maker import ALWAYS, BIG, lively_yard, made, rising, some_yard

SPINS = (0, 1, 0, 30, 0, ())
FAR = 10 ** 25


class Breaks(unittest.TestCase):
    def told(self, asked, first, last, beats=120):
        """What is told is as walked; what isn't whole so soon is looked at where it is told to be."""
        rows = breaks(asked, first, last)
        self.assertIsInstance(rows, list)
        self.assertTrue(all(isinstance(row, tuple) for row in rows))
        wanted = plain_breaks(asked, first, last, beats)
        self.assertEqual([row[:3] for row in rows], [row[:3] for row in wanted], (asked, first, last))
        for row, other in zip(rows, wanted):
            if other[3] is not None:
                self.assertEqual(row, other, asked)
            else:
                self.is_whole_far_off(asked, row, last + beats)
        return rows

    def is_whole_far_off(self, asked, row, past):
        broke, frame, thread, whole = row
        torn = (frame, thread, broke)
        if whole is None:
            # by then all comings, goings and strays lie behind, and rounds have come again
            self.assertIn(torn, leapt(asked, 10 ** 39)[1], (asked, row))
        else:
            self.assertGreater(whole, past)
            self.assertIn(torn, leapt(asked, whole - 1)[1], (asked, row))
            self.assertNotIn(torn, leapt(asked, whole)[1], (asked, row))

    def test_worked(self):
        self.assertEqual(self.told(SEVEN, 1, 20), [(2, 0, 0, 4), (9, 0, 0, 11), (16, 0, 0, 18)])
        self.assertEqual(self.told(SEVEN, 2, 2), [(2, 0, 0, 4)])
        self.assertEqual(self.told(SEVEN, 3, 8), [])
        self.assertEqual(self.told(SEVEN, 3, 9), [(9, 0, 0, 11)])

    def test_several_behind_one_beat(self):
        asked = made([(0, 2, 1, 9, 0, ((1, 0), (1, 1))), (1, 3, 1, 9, 0, ((1, 0), (1, 2)))], [(1, (0, 1), 0, None)],
                     pieces=(2, 3))
        self.assertEqual(self.told(asked, 1, 1), [(1, 0, 0, 3), (1, 0, 1, 5), (1, 1, 0, 8), (1, 1, 2, 11)])

    def test_never_whole(self):
        asked = made([(0, 2, 1, 9, 0, ((4, 0), (6, 1)))], [], ())
        self.assertEqual(self.told(asked, 1, 400), [(4, 0, 0, None), (6, 0, 1, None)])
        # a hand that goes in the midst
        asked = made([(0, 1, 0, 9, 0, ((4, 0),))], [(0, (0,), 0, 6)], pieces=(5, 1))
        self.assertEqual(self.told(asked, 1, 50), [(4, 0, 0, None)])

    def test_whole_far_off_and_beyond_big(self):
        frame = (0, 2, 1, 9, 0, ((4, 0),))
        for come in (FAR, BIG - 1, BIG):
            asked = made([frame], [(0, (0,), come, None)], pieces=(5, 1))
            self.assertEqual(breaks(asked, 1, 400)[0], (4, 0, 0, come + 5))
            self.told(asked, 1, 40)
        # it broke at BIG
        asked = made([frame], [ALWAYS], [(0, BIG, 1)], pieces=(9, 1))
        row = self.told(asked, BIG, BIG)[0]
        self.assertEqual(row[:3], (BIG, 0, 1))
        self.assertGreater(row[3], BIG)
        # each round has others that are whole, and one that has to wait for a far hand
        frames = [(0, 2, 1, 5, 1, ((2, 0),)), (0, 2, 1, 3, 0, ((1, 1),))]
        asked = made(frames, [(0, (0,), 0, None), (0, (0, 1), FAR, None)], pieces=(2, 1))
        self.assertEqual(self.told(asked, 1, 1)[0][:3], (1, 1, 1))
        self.assertGreater(breaks(asked, 1, 1)[0][3], FAR)

    def test_near(self):
        source = random.Random(251)
        found = 0
        for turn in range(80):
            asked = some_yard(source, far=60, longest=source.choice((5, 30)), most_hands=source.choice((1, 3, 16)))
            if turn % 3 == 0:
                asked = lively_yard(source, 60, most_frames=4)
            first = source.choice((1, source.randint(1, 90)))
            found += len(self.told(asked, first, first + source.choice((0, 1, source.randint(0, 90)))))
        self.assertGreater(found, 200)

    def test_far(self):
        source = random.Random(252)
        far_off, never = 0, 0
        for turn in range(80):
            far = source.choice((10 ** 4, 10 ** 18, BIG))
            asked = lively_yard(source, far) if turn % 2 else some_yard(source, far, 5, 2)
            for first in (1, source.randint(1, far), source.randint(1, BIG), BIG - source.randint(0, 40)):
                for row in self.told(asked, first, min(BIG, first + 40)):
                    far_off += row[3] is not None and row[3] - row[0] > 1000
                    never += row[3] is None
        self.assertGreater(min(far_off, never), 10)

    def test_refused(self):
        for first, last in ((5, 4), (2, 1), (1, 402), (BIG - 401, BIG), (BIG, BIG - 1), (7, 10 ** 20), (BIG, BIG + 1)):
            with self.assertRaises(NoMoment):
                breaks(SEVEN, first, last)
        for first, last in ((5, 5), (1, 401), (BIG - 400, BIG), (BIG, BIG)):
            breaks(SEVEN, first, last)
        for odd in NO_BEATS:
            for pair in ((odd, 5), (5, odd), (odd, odd)):
                with self.assertRaises(NoMoment):
                    breaks(SEVEN, *pair)
        for odd in (None, (), 7, list(SEVEN), SEVEN[:5]):
            for pair in ((1, 5), (None, None), (5, 1)):
                with self.assertRaises(NoYard):
                    breaks(odd, *pair)
            with self.assertRaises(NoYard):
                longest(odd)

    def test_spoilt_and_told_again(self):
        kept = copy.deepcopy(SEVEN)
        rows = breaks(SEVEN, 1, 30)
        wanted = list(rows)
        rows.reverse()
        rows[0] = None
        self.assertEqual(breaks(SEVEN, 1, 30), wanted)
        self.assertEqual(longest(SEVEN), longest(kept))
        self.assertEqual(SEVEN, kept)


class Longest(unittest.TestCase):
    def test_none(self):
        self.assertEqual(longest(made([SPINS])), ("none",))
        self.assertEqual(longest(made([(0, 4, 3, 1, 9, ())] * 4, [ALWAYS])), ("none",))

    def test_worked(self):
        self.assertEqual(longest(SEVEN), ("waits", 2, (2, 0, 0, 4)))
        self.assertEqual(longest(SEVEN[:4] + ((), ())), ("endless", (2, 0, 0, None)))

    def test_of_alike_ones_the_first(self):
        # both frames break at once, and each round again
        frames = [(0, 1, 0, 5, 0, ((3, 0),)), (0, 1, 0, 5, 0, ((3, 0),))]
        asked = made(frames, [(1, (0,), 0, None), (0, (1,), 0, None)], pieces=(4, 1))
        self.assertEqual(longest(asked), ("waits", 4, (3, 0, 0, 7)))
        # parts that never touch: the second one's break is earlier
        frames = [(0, 1, 0, 5, 0, ((4, 0),)), (0, 1, 0, 5, 0, ((3, 0),))]
        asked = made(frames, [(1, (0,), 0, None), (1, (1,), 0, None)], walks=((0, 0), (0, 0)), pieces=(4, 1))
        self.assertEqual(longest(asked), ("waits", 4, (3, 1, 0, 7)))

    def test_the_first_that_never_is_whole(self):
        # a later one never is, and one that is whole waits longer than all before
        frames = [(0, 1, 0, 5, 0, ((4, 0),)), (1, 2, 1, 9, 0, ((9, 1),))]
        asked = made(frames, [ALWAYS], pieces=(9, 1))
        self.assertEqual(longest(asked), ("endless", (9, 1, 1, None)))
        # both at once: the least frame, the least thread
        torn = (0, 2, 1, 5, 0, ((2, 0), (2, 1)))
        self.assertEqual(longest(made([torn, torn])), ("endless", (2, 0, 0, None)))
        self.assertEqual(longest(made([SPINS, torn])), ("endless", (2, 1, 0, None)))

    def test_never_whole_far_off(self):
        for spun in (FAR, BIG):
            asked = made([(0, 2, 1, 7, 0, ((2, 0),))], [(0, (0,), 0, BIG - 5)], [(0, spun, 1)], pieces=(3, 1))
            told = longest(asked)
            self.assertEqual(told[0], "endless")
            self.assertIn(told[1][1:3] + told[1][:1], leapt(asked, 10 ** 39)[1])
        # a stray behind the hand's going
        asked = made([(0, 1, 0, 7, 0, ())], [(0, (0,), 0, FAR)], [(0, 9, 0), (0, FAR + 40, 0)], pieces=(3, 1))
        self.assertEqual(longest(asked), ("endless", (FAR + 43, 0, 0, None)))

    def test_the_longest_made_by_a_far_stray(self):
        # two broken at once, far off: the one has to wait for the other
        asked = made([(0, 2, 1, 7, 0, ((2, 0),))], [ALWAYS], [(0, 7 * FAR + 2, 1)], pieces=(3, 1))
        self.assertEqual(longest(asked), ("waits", 6, (7 * FAR + 2, 0, 1, 7 * FAR + 8)))
        asked = made([(0, 2, 1, 7, 0, ((2, 0),))], [ALWAYS], [(0, 7 * FAR + 3, 1)], pieces=(3, 1))
        self.assertEqual(longest(asked), ("waits", 5, (7 * FAR + 3, 0, 1, 7 * FAR + 8)))

    def test_the_longest_made_by_one_who_goes(self):
        # gone in the midst of a piece, and another one comes who begins anew
        frame = (0, 1, 0, 4, 0, ((4, 0),))
        gone = 6 * FAR + 5
        asked = made([frame], [(0, (0,), 0, gone), (0, (0,), gone + 10, None)], pieces=(2, 1))
        self.assertEqual(longest(asked), ("waits", 13, (gone - 1, 0, 0, gone + 12)))

    def test_the_longest_made_by_one_who_comes(self):
        # it may come far off alone, and all that time it is waited for
        asked = made([(0, 2, 1, 4, 0, ((4, 0),))], [(0, (0,), BIG, None)], pieces=(2, 1))
        self.assertEqual(longest(asked), ("waits", BIG - 2, (4, 0, 0, BIG + 2)))

    def test_over_the_end_of_a_round(self):
        # each round's last break is whole in the next one: the last one, with another behind it, is so later
        frame = (0, 2, 1, 4, 0, ((4, 0),))
        for times in (3, 4, 5, 50, FAR):
            asked = made([frame], [ALWAYS], [(0, 4 * times + 1, 1)], pieces=(3, 1))
            self.assertEqual(longest(asked), ("waits", 5, (4 * times + 1, 0, 1, 4 * times + 6)))
            asked = made([frame], [(0, (0,), 0, 4 * times + 2), (0, (0,), 4 * times + 2, None)], pieces=(3, 1))
            self.assertEqual(longest(asked), ("waits", 5, (4 * times, 0, 0, 4 * times + 5)))

    def test_first_broken_otherwise_than_in_the_round(self):
        # what is broken where the round begins has broken otherwise than what is so a round later
        one = made([(1, 4, 1, 4, 0, ((1, 0), (1, 1)))], [ALWAYS, (0, (0,), 1, 19)], [(0, 11, 0)], "sort", pieces=(5, 3))
        two = made([(0, 2, 1, 4, 0, ((2, 1), (3, 0)))], [ALWAYS], [(0, 1, 1), (0, 20, 0), (0, 21, 1)], "near", pieces=(3, 4))
        for asked, wanted in ((one, ("waits", 6, (27, 0, 1, 33))), (two, ("waits", 5, (8, 0, 0, 13)))):
            self.assertEqual(plain_longest(asked, 400), wanted)
            self.assertEqual(longest(asked), wanted)
        rows = ((1, 1), (2, 0), (2, 1), (3, 1))
        for spun in (211, 505611, 5 * 10 ** 25 + 611):
            asked = made([(0, 2, 1, 3, 0, rows)], [ALWAYS], [(0, 25, 0), (0, spun, 0)], pieces=(2, 2))
            self.assertEqual(longest(asked), ("waits", 4, (40, 0, 1, 44)))
        self.assertEqual(plain_longest(made([(0, 2, 1, 3, 0, rows)], [ALWAYS], [(0, 25, 0), (0, 211, 0)], pieces=(2, 2)), 900),
                         ("waits", 4, (40, 0, 1, 44)))

    def test_against_plain_walks(self):
        source = random.Random(253)
        counts = {}
        for turn in range(400):
            asked = some_yard(source, far=60, longest=source.choice((3, 6)), most_frames=source.randint(1, 3), most_hands=3)
            if turn % 2:
                asked = lively_yard(source, 60, most_frames=3)
            wanted = plain_longest(asked, 400)
            if wanted is not None:
                counts[wanted[0]] = counts.get(wanted[0], 0) + 1
                self.assertEqual(longest(asked), wanted, asked)
        self.assertGreater(counts["waits"], 100)
        self.assertGreater(counts["endless"], 50)
        self.assertGreater(counts["none"], 1)


def near_and_far(source, asked, times):
    """(A yard with one thing met in its round, the same with it met so many rounds later), LOW and HIGH, and the beats of
    these rounds: between LOW and HIGH nothing breaks but what broke a round earlier.

    None where its round is too long, or nothing can be met in it.
    """
    found = plain_round(asked, 80)
    if found is None:
        return None
    lead, beats, _ = found
    past = lead + beats * (6 + lead // beats)
    frames, walks, pieces, rule, hands, strays = asked
    frame = source.randrange(len(frames))
    spun, grown = leapt(asked, past)[0][frame][0], leapt(asked, past + beats)[0][frame][0]
    grown -= spun
    draw = source.randrange(3)
    met = past + source.randrange(beats) + 1
    minds = tuple(range(len(frames)))
    if draw == 0 and hands[0][3] is None:
        pair = [(hands[0][:3] + (end,),) + hands[1:] for end in (met, met + beats * times)]
        pair = [(frames, walks, pieces, rule, some, strays) for some in pair]
    elif draw == 1:
        pair = [hands + ((frame, minds, come, come + 9),) for come in (met, met + beats * times)]
        pair = [(frames, walks, pieces, rule, some, strays) for some in pair]
    elif grown > 0:
        stray = spun + source.randint(1, grown)
        thread = source.randrange(frames[frame][1])
        pair = [rising(strays + ((frame, some, thread),)) for some in (stray, stray + grown * times)]
        pair = [(frames, walks, pieces, rule, hands, some) for some in pair]
    else:
        return None
    return pair, (lead + beats, past - beats), beats * times


class Moved(unittest.TestCase):
    def test_what_is_met_is_met_so_many_rounds_later(self):
        source = random.Random(254)
        moved, counts = 0, {}
        for _ in range(300):
            asked = lively_yard(source, 20, most_frames=2)
            asked = asked[:4] + (asked[4][:1], asked[5][:source.randrange(3)])
            times = source.choice((1, 2, 10 ** 6, 10 ** 24))
            found = near_and_far(source, asked, times)
            torn = None if found is None else all_breaks(found[0][0], 900)
            if torn is None:
                continue
            (_, far), (low, high), by = found
            wanted = longest_of([later(row, high, by) for row in torn if not low < row[0] <= high])
            counts[wanted[0]] = counts.get(wanted[0], 0) + 1
            moved += wanted[0] != "none" and wanted[-1][0] > 10 ** 5
            self.assertEqual(longest(far), wanted, far)
        self.assertGreater(min(counts["waits"], counts["endless"]), 20)
        self.assertGreater(moved, 20)


def later(row, high, by):
    """The break with the beats behind high so many more."""
    broke, frame, thread, whole = row
    return (broke + by * (broke > high), frame, thread, whole if whole is None else whole + by * (whole > high))


if __name__ == "__main__":
    unittest.main()
