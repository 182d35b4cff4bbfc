import copy
import random
import unittest

from doffyard.beats import frames_do, hands_do
from doffyard.errors import NoMoment, NoYard
from tests.plain_walk import frame_words, hand_words, leapt, walked
from tests.yard_maker import ALWAYS, BIG, lively_yard, made, some_yard

NO_BEATS = (0, -1, BIG + 1, BIG * 10, None, True, False, "1", b"1", "", (), (1,), [1], {}, set(), len)


class Worked(unittest.TestCase):
    def told(self, ask, asked, wanted):
        self.assertEqual([ask(asked, beat) for beat in range(1, len(wanted) + 1)], wanted)

    def test_what_a_frame_does(self):
        asked = made([(0, 1, 0, 3, 2, ((2, 0),))], [ALWAYS], pieces=(2, 5))
        seven = [("spins",), ("spins",), ("stands",), ("stands",), ("spins",), ("doffed",), ("doffed",)]
        self.told(frames_do, asked, seven * 3)
        for beat in range(BIG - 20, BIG + 1):
            self.assertEqual(frames_do(asked, beat), seven[(beat - 1) % 7])

    def test_what_a_hand_does(self):
        frames = [(0, 1, 0, 30, 0, ()), (1, 1, 0, 30, 0, ((1, 0),))]
        hands = [(0, (0, 1), 0, None), (0, (0,), 2, 4)]
        asked = made(frames, hands, walks=((0, 2), (0, 0)), pieces=(9, 3))
        self.told(hands_do, asked, [("idle", "away"), ("walks", "away"), ("walks", "idle"), ("pieces", "idle"),
                                    ("pieces", "away"), ("pieces", "away"), ("idle", "away"), ("idle", "away")])

    def test_doffed_ahead_of_stands(self):
        asked = made([(0, 1, 0, 1, 2, ((1, 0),))])
        self.told(frames_do, asked, [("spins",), ("doffed",), ("doffed",), ("stands",), ("stands",)])

    def test_more_than_most(self):
        asked = made([(0, 3, 1, 9, 0, ((1, 0), (2, 1)))])
        self.told(frames_do, asked, [("spins",), ("spins",), ("stands",), ("stands",)])

    def test_a_hand_without_a_walk_pieces_at_once(self):
        asked = made([(0, 2, 1, 9, 0, ((1, 0),))], [ALWAYS], pieces=(2, 1))
        self.told(hands_do, asked, [("idle",), ("pieces",), ("pieces",), ("idle",)])

    def test_no_hands(self):
        self.assertEqual(hands_do(made([(0, 1, 0, 1, 0, ())]), 5), ())


class Walked(unittest.TestCase):
    def test_near(self):
        source = random.Random(61)
        words = set()
        for turn in range(60):
            asked = some_yard(source, far=60, longest=source.choice((5, 30)), most_hands=source.choice((2, 5, 16)))
            if turn % 3 == 0:
                asked = lively_yard(source, 60, most_frames=4)
            for before, row in enumerate(walked(asked, 70)):
                doing = frame_words(asked, row), hand_words(asked, row, before + 1)
                words.update(*doing)
                self.assertEqual((frames_do(asked, before + 1), hands_do(asked, before + 1)), doing, (asked, before))
        self.assertEqual(words, {"doffed", "stands", "spins", "away", "idle", "walks", "pieces"})

    def test_far(self):
        source = random.Random(62)
        for _ in range(60):
            far = source.choice((10 ** 4, 10 ** 18, BIG))
            asked = lively_yard(source, far) if source.random() < 0.5 else some_yard(source, far, 5, 2)
            edges = [edge + by for hand in asked[4] for edge in hand[2:] if edge is not None for by in (0, 1, 2)]
            for beat in [BIG, BIG - 1, source.randint(1, BIG), source.randint(1, far)] + edges[:6]:
                if 1 <= beat <= BIG:
                    row = leapt(asked, beat - 1)
                    self.assertEqual(frames_do(asked, beat), frame_words(asked, row), (asked, beat))
                    self.assertEqual(hands_do(asked, beat), hand_words(asked, row, beat), (asked, beat))

    def test_what_is_told_is_of_tuples_and_the_same_again(self):
        source = random.Random(63)
        for _ in range(10):
            asked = some_yard(source, far=BIG, longest=5, most_frames=2)
            kept = copy.deepcopy(asked)
            for ask in (frames_do, hands_do):
                told = [ask(asked, beat) for beat in (BIG, 1, 77)]
                self.assertTrue(all(isinstance(row, tuple) for row in told))
                self.assertEqual(told, [ask(kept, beat) for beat in (BIG, 1, 77)])
            self.assertEqual(asked, kept)


class Refused(unittest.TestCase):
    some = made([(0, 1, 0, 3, 2, ((2, 0),))], [ALWAYS])

    def test_the_first_beat_and_the_last(self):
        for ask in (frames_do, hands_do):
            for beat in (1, BIG):
                self.assertEqual(len(ask(self.some, beat)), 1)

    def test_no_beats(self):
        for ask in (frames_do, hands_do):
            for odd in NO_BEATS:
                with self.assertRaises(NoMoment):
                    ask(self.some, odd)

    def test_no_yard_ahead_of_no_beat(self):
        for ask in (frames_do, hands_do):
            for odd in (None, (), 7, list(self.some), self.some[:5]):
                for beat in (1, 0, None, BIG + 1):
                    with self.assertRaises(NoYard):
                        ask(odd, beat)


if __name__ == "__main__":
    unittest.main()
