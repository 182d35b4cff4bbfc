import copy
import itertools
import random
import unittest

from doffyard.errors import NoPlain, NoWait, NoYard
from doffyard.plain import fewest_hands, plain_worst
from doffyard.yards import is_yard
from tests.plain_walk import walked
from tests.yard_maker import BIG, made, some_frame

NO_WAITS = (-1, -BIG, None, True, False, "3", b"3", "", (), (3,), [3], {}, set(), len)


def plain_yard(frames, many, pieces=(2, 2), strays=(), places=None):
    """A plain yard with so many hands."""
    minds = tuple(range(len(frames)))
    places = places or [at % len(frames) for at in range(many)]
    return made(frames, [(place, minds, 0, None) for place in places], strays, pieces=pieces)


def with_parts(asked, rows, hands=None):
    """The yard with these rows and without strays, and with other hands where some are told."""
    frames = tuple(frame[:5] + (own,) for frame, own in zip(asked[0], rows))
    return (frames,) + asked[1:4] + (asked[4] if hands is None else hands, ())


def breaks_of(asked, beats):
    """The waits of all breaks that are whole by so many beats: {(BROKE, FRAME, THREAD): beats}."""
    told, torn = {}, {}
    for moment, row in enumerate(walked(asked, beats)):
        now = {part[:2]: part[2] for part in row[1]}
        for thread, since in torn.items():
            if now.get(thread) != since:
                told[(since,) + thread] = moment - since
        torn = now
    return told


def longest_by_words(asked):
    """The most beats of a plain yard by the words of point 15."""
    pieces = [asked[2][frame[0]] for frame in asked[0] for _ in range(frame[1])]
    if len(asked[4]) == 1:
        return sum(pieces)
    turns = 0
    while turns * len(asked[4]) < len(pieces):
        turns += 1
    return pieces[0] * turns


FRAMES = [(0, 3, 1, 5, 2, ((2, 1),)), (1, 2, 0, 1, 0, ()), (0, 4, 3, 30, 9, ())]


class Worst(unittest.TestCase):
    def held(self, asked):
        beats, rows = plain_worst(asked)
        self.assertEqual(beats, longest_by_words(asked))
        self.assertIsInstance(rows, tuple)
        walk = with_parts(asked, rows)
        self.assertTrue(is_yard(walk))
        first = [wait for key, wait in breaks_of(walk, beats + 3).items() if key[0] == 1]
        self.assertEqual(max(first), beats)
        return beats

    def test_one_hand_with_pieces_unlike(self):
        self.assertEqual(self.held(plain_yard(FRAMES, 1, (3, 7))), 3 * 7 + 7 * 2)
        self.assertEqual(self.held(plain_yard(FRAMES[1:2], 1, (3, 7))), 14)
        self.assertEqual(self.held(plain_yard(FRAMES[:1], 1, (1, 9))), 3)

    def test_several_hands_with_pieces_alike(self):
        for many, turns in ((1, 9), (2, 5), (3, 3), (4, 3), (5, 2), (8, 2), (9, 1), (10, 1), (16, 1)):
            self.assertEqual(self.held(plain_yard(FRAMES, many, (4, 4))), 4 * turns)

    def test_pieces_of_a_sort_that_no_frame_has(self):
        for many in (1, 2, 5):
            self.assertEqual(self.held(plain_yard([FRAMES[0], FRAMES[2]], many, (4, 9))), 4 * -(-7 // many))
            self.assertEqual(self.held(plain_yard([FRAMES[1]], many, (9, 5))), 5 * -(-2 // many))
        self.assertEqual(fewest_hands(plain_yard([FRAMES[1]], 1, (9, 5)), 5), 2)

    def test_many_yards_and_all_their_breaks(self):
        source = random.Random(51)
        for _ in range(60):
            frames = [some_frame(source, source.choice((1, 3, 30))) for _ in range(source.randint(1, 4))]
            many = source.choice((1, 1, 2, 3, 7, 16))
            pieces = (source.randint(1, 9), source.randint(1, 9))
            if many > 1:
                pieces = pieces[:1] * 2
            strays = ((0, source.randint(1, 9), 0), (0, 50, 0))
            asked = plain_yard(frames, many, pieces, strays)
            beats = self.held(asked)
            self.assertLessEqual(max(breaks_of(asked, 300).values(), default=0), beats)

    def test_no_rows_make_one_wait_longer(self):
        frames = [(0, 2, 1, 2, 0, ()), (1, 1, 0, 2, 1, ())]
        spots = [[(at, thread) for at in (1, 2) for thread in range(frame[1])] for frame in frames]
        choices = [[tuple(sorted(some)) for many in range(len(own) + 1) for some in itertools.combinations(own, many)]
                   for own in spots]
        for many, pieces in ((1, (2, 3)), (2, (2, 2)), (3, (2, 2))):
            asked = plain_yard(frames, many, pieces)
            longest = 0
            for rows in itertools.product(*choices):
                longest = max([longest] + list(breaks_of(with_parts(asked, rows), 60).values()))
            self.assertEqual(longest, plain_worst(asked)[0])

    def test_each_thing_by_which_a_yard_is_not_plain(self):
        good = plain_yard(FRAMES, 2, (4, 4))
        plain_worst(good)
        frames, walks, pieces, rule, hands, strays = good
        bad = [(frames, walks, pieces, "near", hands, strays), (frames, walks, pieces, "sort", hands, strays),
               (frames, ((0, 0, 0), (0, 0, 0), (0, 1, 0)), pieces, rule, hands, strays),
               (frames, ((0, 9, 9), (9, 0, 9), (9, 9, 0)), pieces, rule, hands, strays),
               (frames, walks, pieces, rule, (), strays),
               (frames, walks, (4, 5), rule, hands, strays)]
        for hand in ((0, (0, 1), 0, None), (0, (1, 2), 0, None), (0, (0,), 0, None), (0, (0, 1, 2), 1, None),
                     (0, (0, 1, 2), BIG, None), (0, (0, 1, 2), 0, 1), (0, (0, 1, 2), 0, BIG)):
            bad += [(frames, walks, pieces, rule, (hand,), strays), (frames, walks, pieces, rule, hands + (hand,), strays)]
        for asked in bad:
            self.assertTrue(is_yard(asked))
            with self.assertRaises(NoPlain):
                plain_worst(asked)
            for wait in (5, None, -1):
                with self.assertRaises(NoPlain):
                    fewest_hands(asked, wait)

    def test_no_yards(self):
        good = plain_yard(FRAMES, 2)
        for odd in (None, (), 4, True, "old", good[:5], list(good)):
            with self.assertRaises(NoYard):
                plain_worst(odd)
            for wait in (5, None):
                with self.assertRaises(NoYard):
                    fewest_hands(odd, wait)

    def test_what_is_handed_in_stays(self):
        asked = plain_yard(FRAMES, 2, (3, 3), ((0, 4, 0),))
        kept = copy.deepcopy(asked)
        self.assertEqual(plain_worst(asked), plain_worst(kept))
        self.assertEqual(fewest_hands(asked, 6), fewest_hands(kept, 6))
        self.assertEqual(asked, kept)


class Fewest(unittest.TestCase):
    def test_by_trying(self):
        for frames, piece in ((FRAMES, 4), (FRAMES[:1], 1), (FRAMES[1:2], 9), ([(0, 4, 0, 9, 0, ())] * 4, 2)):
            for given in (1, 3):
                asked = plain_yard(frames, given, (piece, piece))
                for wait in range(0, 16 * piece + 5):
                    good = [many for many in range(1, 40)
                            if longest_by_words(plain_yard(frames, many, (piece, piece))) <= wait]
                    self.assertEqual(fewest_hands(asked, wait), good[0] if good else None, (piece, wait))

    def test_each_bound(self):
        asked = plain_yard(FRAMES, 1, (4, 4))
        for wait, many in ((0, None), (1, None), (3, None), (4, 9), (7, 9), (8, 5), (11, 5), (12, 3), (16, 3), (20, 2),
                           (35, 2), (36, 1), (37, 1), (10 ** 39, 1), (BIG, 1)):
            self.assertEqual(fewest_hands(asked, wait), many)

    def test_with_one_less_a_break_waits_longer(self):
        asked = plain_yard(FRAMES, 2, (4, 4))
        for wait in range(4, 40):
            many = fewest_hands(asked, wait)
            for count, longer in ((many, False), (many - 1, True)):
                if count:
                    fewer = plain_yard(FRAMES, count, (4, 4))
                    first = breaks_of(with_parts(fewer, plain_worst(fewer)[1]), 60)
                    self.assertIs(max(wait for key, wait in first.items() if key[0] == 1) > wait, longer)

    def test_pieces_unlike(self):
        asked = plain_yard(FRAMES, 1, (4, 5))
        self.assertEqual(plain_worst(asked)[0], 38)
        for wait in (5, 50, None, -1):
            with self.assertRaises(NoPlain):
                fewest_hands(asked, wait)
        self.assertEqual(fewest_hands(plain_yard(FRAMES[:1], 1, (4, 5)), 4), 3)

    def test_no_waits(self):
        asked = plain_yard(FRAMES, 2, (4, 4))
        for odd in NO_WAITS:
            with self.assertRaises(NoWait):
                fewest_hands(asked, odd)


if __name__ == "__main__":
    unittest.main()
