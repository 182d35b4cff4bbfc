import copy
import random
import unittest

from doffyard.beside import beside, gone_at, without_stray
from doffyard.errors import NoHand, NoMoment, NoStray, NoYard
from doffyard.yards import is_yard
from tests.plain_walk import both_leapt, frame_words, leapt, walked
from tests.yard_maker import ALWAYS, BIG, changed, lively_yard, made, some_yard

NO_NUMBERS = (-1, None, True, False, "0", b"0", (), (0,), [0], {}, set(), len, BIG)


def unlike_beats(asked, other, beats):
    """The beats, to the last one asked, in which some frame does another thing in the one than in the other."""
    rows = zip(walked(asked, beats - 1), walked(other, beats - 1))
    return [beat for beat, (mine, theirs) in enumerate(rows, 1)
            if frame_words(asked, mine) != frame_words(other, theirs)]


class Worked(unittest.TestCase):
    def both_ways(self, asked, other, wanted):
        self.assertEqual(beside(asked, other), wanted)
        self.assertEqual(beside(other, asked), wanted)

    def test_the_same_yard_twice(self):
        source = random.Random(31)
        for far in (30, 10 ** 9, BIG):
            for _ in range(12):
                asked = some_yard(source, far=far, longest=6, most_frames=3)
                self.assertEqual(beside(asked, copy.deepcopy(asked)), (None, None))

    def test_unlike_again_and_again(self):
        spins = (0, 1, 0, 3, 0, ())
        self.both_ways(made([spins]), made([(0, 1, 0, 3, 1, ())]), (4, None))
        self.both_ways(made([(0, 1, 0, 30, 1, ())]), made([(0, 1, 0, 29, 2, ())]), (30, None))
        # standing for ever in the one alone
        self.both_ways(made([spins]), made([spins], [], ((0, 8, 0),)), (9, None))

    def test_rounds_of_other_lengths_that_agree(self):
        # by FILL the one has a round of two beats, the other one of three; both spin on and on
        self.both_ways(made([(0, 1, 0, 2, 0, ())]), made([(1, 3, 1, 3, 0, ())]), (None, None))
        # broken threads, lengths and hands are unlike, but what the frames do isn't
        torn = (0, 2, 1, 7, 0, ((3, 1),))
        self.both_ways(made([torn]), made([(0, 2, 1, 30, 0, ())], [ALWAYS]), (None, None))

    def test_unlike_in_some_beats_alone(self):
        frame = (0, 1, 0, 1, 0, ())
        for spun in (1, 5, 10 ** 25, BIG):
            for beats in (1, 4, 9):
                asked = made([frame], [ALWAYS], ((0, spun, 0),), pieces=(beats, 1))
                self.both_ways(asked, made([frame], [ALWAYS]), (spun + 1, spun + beats))

    def test_the_first_of_some_frame_and_the_last_of_another(self):
        frame = (0, 1, 0, 1, 0, ())
        hand = (0, (0, 1), 0, None)
        calm = made([frame, frame], [hand])
        asked = made([frame, frame], [hand], ((0, 5, 0), (1, 10 ** 28, 0)), pieces=(3, 1))
        self.both_ways(asked, calm, (6, 10 ** 28 + 3))
        ever = made([frame, (0, 1, 0, 9, 2, ())], [hand], ((0, 5, 0),), pieces=(3, 1))
        self.both_ways(ever, calm, (6, None))

    def test_beyond_big(self):
        slow = (0, 1, 0, 1, 9, ())
        # it has spun BIG lengths behind ten beats for each, and the nine of the last doffing go by alike
        asked = made([slow], [], ((0, BIG, 0),))
        self.both_ways(asked, made([slow]), (10 * BIG + 1, None))
        once = made([slow], [ALWAYS], ((0, BIG, 0),), pieces=(9, 9))
        # it is whole again before the doffing is over
        self.both_ways(once, made([slow], [ALWAYS]), (None, None))
        quick = (0, 1, 0, 2, 1, ())
        twice = made([quick], [ALWAYS], ((0, BIG - 1, 0),), pieces=(4, 1))
        self.assertEqual(beside(twice, made([quick], [ALWAYS]))[0], (BIG - 2) // 2 * 3 + 2)

    def test_far_goings(self):
        frame = (0, 1, 0, 4, 0, ((4, 0),))
        asked = made([frame], [ALWAYS], pieces=(2, 1))
        # rounds of six beats; the last break that is pieced is whole behind the last such round
        for times in (1, 10 ** 20):
            for more in range(6):
                gone = gone_at(asked, 0, 6 * times + more)
                first = 6 * times + 7 if more < 6 else None
                self.assertEqual(beside(asked, gone), (first, None))
        last = gone_at(asked, 0, BIG)
        self.assertEqual(beside(last, asked), both_leapt(asked, last))
        self.assertGreater(beside(last, asked)[0], BIG)

    def test_unlike_by_rounds_and_alike_for_ever_behind_them(self):
        frame = (0, 1, 0, 4, 0, ((4, 0),))
        alone = made([frame])
        asked = made([frame], [ALWAYS], pieces=(2, 1))
        # it spins in four of six beats; gone as the thread breaks, the hand leaves it broken as it is in the other yard
        for times in (1, 2, 3, 10, 10 ** 20):
            self.both_ways(gone_at(asked, 0, 6 * times + 4), alone, (7, 6 * times + 4))
            self.both_ways(gone_at(asked, 0, 6 * times + 5), alone, (7, 6 * times + 4))
            self.both_ways(gone_at(asked, 0, 6 * times + 6), alone, (7, 6 * times + 10))

    def test_yards_with_another_number_of_frames(self):
        frame = (0, 1, 0, 4, 0, ())
        for one in range(1, 5):
            for other in range(1, 5):
                if one == other:
                    self.assertEqual(beside(made([frame] * one), made([frame] * other)), (None, None))
                else:
                    with self.assertRaises(NoYard):
                        beside(made([frame] * one), made([frame] * other))

    def test_no_yards(self):
        asked = made([(0, 1, 0, 4, 0, ())])
        for odd in (None, (), 5, "x", list(asked), asked[:5]):
            for pair in ((odd, asked), (asked, odd), (odd, odd)):
                with self.assertRaises(NoYard):
                    beside(*pair)


class Walked(unittest.TestCase):
    def test_near_against_a_plain_walk_of_both(self):
        source = random.Random(32)
        kinds = set()
        for _ in range(150):
            asked = some_yard(source, far=source.choice((10, 60)), longest=source.choice((3, 6)),
                              most_frames=source.randint(1, 3), most_hands=3)
            other = changed(source, asked, 60)
            self.assertTrue(is_yard(other))
            told = beside(asked, other)
            self.assertEqual(beside(other, asked), told)
            unlike = unlike_beats(asked, other, 500)
            first, last = told
            kinds.add((first is None, last is None))
            self.assertEqual(first, unlike[0] if unlike else None, (asked, other))
            if last is None and first is not None:
                self.assertGreater(unlike[-1], 300, (asked, other))
            else:
                self.assertEqual(last, unlike[-1] if unlike else None, (asked, other))
        self.assertEqual(len(kinds), 3)

    def test_unlike_yards_side_by_side(self):
        source = random.Random(33)
        for _ in range(60):
            asked = some_yard(source, far=80, longest=4, most_frames=2, most_hands=2)
            other = some_yard(source, far=80, longest=4, most_frames=2, most_hands=2)
            if len(asked[0]) == len(other[0]):
                self.assertEqual(beside(asked, other), both_leapt(asked, other), (asked, other))

    def test_far_against_both_side_by_side(self):
        source = random.Random(34)
        far_first, far_last = 0, 0
        for turn in range(200):
            far = source.choice((10 ** 4, 10 ** 18, BIG))
            if turn % 2:
                asked = lively_yard(source, far)
                other = without_stray(asked, source.randrange(len(asked[5])))
            else:
                asked = some_yard(source, far, 4, 2, 2)
                other = changed(source, asked, far)
            told = beside(asked, other)
            self.assertEqual(told, both_leapt(asked, other), (asked, other))
            self.assertEqual(told, beside(other, asked))
            far_first += told[0] is not None and told[0] > 1000
            far_last += told[1] is not None and told[1] > 1000
        self.assertGreater(far_first, 30, far_last)
        self.assertGreater(far_last, 10)

    def test_without_a_stray_nothing_is_unlike_before_it(self):
        source = random.Random(35)
        found = 0
        for _ in range(30):
            asked = lively_yard(source, source.choice((50, 10 ** 20)))
            for number, (frame, spun, _) in enumerate(asked[5][:4]):
                first, _ = beside(asked, without_stray(asked, number))
                if first is not None:
                    found += 1
                    self.assertGreaterEqual(leapt(asked, first - 1)[0][frame][0], spun)
        self.assertGreater(found, 10)

    def test_where_one_is_gone_nothing_is_unlike_before_that(self):
        source = random.Random(36)
        found = 0
        for _ in range(30):
            asked = some_yard(source, far=source.choice((50, 10 ** 20)), longest=5, most_frames=2, most_hands=2)
            for number, hand in enumerate(asked[4]):
                moment = hand[2] + source.randint(1, 60)
                if moment <= BIG:
                    first, _ = beside(asked, gone_at(asked, number, moment))
                    if first is not None:
                        found += 1
                        self.assertGreater(first, moment)
        self.assertGreater(found, 5)


class Less(unittest.TestCase):
    frame = (0, 2, 1, 9, 2, ((4, 1),))
    hands = ((0, (0,), 0, None), (0, (0,), 7, 20), (0, (0,), BIG - 1, BIG), (0, (0,), BIG, None))
    strays = ((0, 1, 0), (0, 1, 1), (0, 5, 0), (0, BIG, 1))
    asked = made([frame], hands, strays)

    def test_without_each_stray(self):
        for number in range(4):
            told = without_stray(self.asked, number)
            self.assertTrue(is_yard(told))
            self.assertEqual(told[:5], self.asked[:5])
            self.assertEqual(told[5], tuple(stray for stray in self.strays if stray != self.strays[number]))
        self.assertEqual(without_stray(made([self.frame], [], self.strays[:1]), 0)[5], ())

    def test_no_strays(self):
        for odd in NO_NUMBERS + (4, 5, -4):
            with self.assertRaises(NoStray):
                without_stray(self.asked, odd)
        with self.assertRaises(NoStray):
            without_stray(made([self.frame]), 0)
        for odd in (None, (), self.asked[:5]):
            for stray in (0, None):
                with self.assertRaises(NoYard):
                    without_stray(odd, stray)

    def test_each_hand_gone(self):
        for number, moment, end in ((0, 1, 1), (0, BIG, BIG), (1, 8, 8), (1, 19, 19), (1, 20, 20), (1, 21, 20),
                                    (1, BIG, 20), (2, BIG, BIG), (0, 10 ** 20, 10 ** 20)):
            told = gone_at(self.asked, number, moment)
            self.assertTrue(is_yard(told))
            self.assertEqual(told[:4] + told[5:], self.asked[:4] + self.asked[5:])
            for at, hand in enumerate(told[4]):
                self.assertEqual(hand, self.hands[at][:3] + (end,) if at == number else self.hands[at])

    def test_no_moments(self):
        for number, moment in ((0, 0), (1, 7), (1, 6), (1, 0), (2, BIG - 1), (3, BIG), (3, 5)):
            with self.assertRaises(NoMoment):
                gone_at(self.asked, number, moment)
        for odd in (-1, BIG + 1, None, True, "9", (9,), [9], set(), {}):
            with self.assertRaises(NoMoment):
                gone_at(self.asked, 0, odd)

    def test_no_hands_and_two_faults_at_once(self):
        for odd in NO_NUMBERS + (4, 5):
            for moment in (9, None, -1):
                with self.assertRaises(NoHand):
                    gone_at(self.asked, odd, moment)
                for thing in (None, (), self.asked[:5], list(self.asked)):
                    with self.assertRaises(NoYard):
                        gone_at(thing, odd, moment)

    def test_what_is_handed_in_stays(self):
        kept = copy.deepcopy(self.asked)
        beside(self.asked, without_stray(self.asked, 1))
        gone_at(self.asked, 0, 3)
        self.assertEqual(self.asked, kept)


if __name__ == "__main__":
    unittest.main()
