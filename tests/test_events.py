import copy
import random
import unittest

from doffyard.errors import NoMoment, NoYard
from doffyard.events import next_event
from tests.plain_tales import eventful
from tests.yard_maker import ALWAYS, BIG, lively_yard, made, some_yard

NO_MOMENTS = (-1, BIG + 1, None, True, False, "1", b"1", "", (), (1,), [1], {}, set(), len)
SPINS = (0, 1, 0, 30, 0, ())


class Worked(unittest.TestCase):
    def beats(self, asked, many):
        """The first so many eventful beats, each asked for from the one before it."""
        told = [next_event(asked, 0)]
        while len(told) < many and told[-1] is not None:
            told.append(next_event(asked, told[-1]))
        return told

    def test_nothing_ever_happens(self):
        for frame in (SPINS, (0, 2, 1, 7, 0, ())):
            asked = made([frame, frame])
            for moment in (0, 1, 5, 10 ** 20, BIG - 1, BIG):
                self.assertIsNone(next_event(asked, moment))

    def test_beat_1(self):
        # no beat is before it, so that to spin in it is nothing new
        self.assertIsNone(next_event(made([SPINS]), 0))
        self.assertEqual(next_event(made([SPINS], [ALWAYS]), 0), 1)
        self.assertIsNone(next_event(made([SPINS], [ALWAYS]), 1))
        self.assertEqual(next_event(made([(0, 1, 0, 30, 0, ((1, 0),))]), 0), 1)
        self.assertEqual(next_event(made([SPINS], [], [(0, 1, 0)]), 0), 1)
        self.assertEqual(next_event(made([(0, 1, 0, 1, 3, ())]), 0), 2)

    def test_a_frame_does_another_thing(self):
        self.assertEqual(self.beats(made([(0, 1, 0, 3, 2, ())]), 6), [4, 6, 9, 11, 14, 16])
        # it breaks, stands, and does so for ever
        self.assertEqual(self.beats(made([(0, 1, 0, 9, 0, ((4, 0),))]), 6), [4, 5, None])
        # doffed first, then it stands
        self.assertEqual(self.beats(made([(0, 1, 0, 4, 3, ((4, 0),))]), 6), [4, 5, 8, None])
        # a broken thread by which it doesn't stand
        self.assertEqual(self.beats(made([(0, 2, 1, 9, 0, ((4, 0),))]), 6), [4, None])

    def test_a_hand_comes_and_goes(self):
        asked = made([SPINS], [(0, (0,), 7, 9), (0, (0,), 8, 10 ** 20), (0, (0,), 10 ** 20 - 1, BIG - 1),
                               (0, (0,), BIG - 1, BIG), (0, (0,), BIG, None)])
        self.assertEqual(self.beats(asked, 9), [8, 9, 10, 10 ** 20, 10 ** 20 + 1, BIG, None])
        self.assertEqual(next_event(asked, BIG - 1), BIG)
        self.assertIsNone(next_event(asked, BIG))

    def test_a_hand_takes(self):
        frames = [(0, 2, 1, 30, 0, ()), SPINS]
        # it comes, breaks in 4, is taken in 5, walked and pieced to 9 and whole behind that
        asked = made(frames, [(1, (0, 1), 0, None)], [(0, 4, 1)], walks=((0, 3), (2, 0)), pieces=(3, 1))
        self.assertEqual(self.beats(asked, 9), [1, 4, 5, 9, None])
        # taken and whole in one beat
        asked = made(frames, [ALWAYS], [(0, 4, 1)])
        self.assertEqual(self.beats(asked, 9), [1, 4, 5, None])
        # who goes in the midst leaves it to another one, who takes it in that beat
        asked = made(frames, [(0, (0,), 0, 6), ALWAYS], [(0, 4, 1)], pieces=(5, 1))
        self.assertEqual(self.beats(asked, 9), [1, 4, 5, 7, 11, None])

    def test_far_strays_and_nothing_before_them(self):
        asked = made([(0, 2, 1, 7, 0, ())], [(0, (0,), 3, None)], [(0, 5, 0), (0, 10 ** 15, 1), (0, BIG, 0)], pieces=(4, 1))
        wanted = [4, 5, 6, 9, 10 ** 15, 10 ** 15 + 1, 10 ** 15 + 4, BIG, None]
        self.assertEqual(self.beats(asked, 12), wanted)
        for moment in (9, 10 ** 9, 10 ** 15 - 1):
            self.assertEqual(next_event(asked, moment), 10 ** 15)
        for moment in (10 ** 15 + 4, 10 ** 20, BIG - 1):
            self.assertEqual(next_event(asked, moment), BIG)

    def test_strays_of_broken_threads_are_nothing(self):
        asked = made([(0, 2, 1, 7, 0, ((7, 0),))], [], [(0, 5, 0), (0, 10 ** 15, 0), (0, 10 ** 16, 1)])
        self.assertEqual(self.beats(asked, 9), [5, 10 ** 16, 10 ** 16 + 1, None])

    def test_stands_for_ever_till_a_hand_comes(self):
        asked = made([(0, 1, 0, 5, 0, ((2, 0),))], [(0, (0,), 10 ** 25, 10 ** 25 + 4)], pieces=(3, 1))
        far = 10 ** 25
        self.assertEqual(self.beats(asked, 12), [2, 3, far + 1, far + 3, far + 4, far + 5, far + 8, far + 9, None])

    def test_parts_that_never_touch(self):
        frames = [(0, 1, 0, 29, 0, ()), (0, 1, 0, 28, 0, ()), (0, 1, 0, 27, 0, ()), (0, 1, 0, 25, 0, ())]
        strays = [(0, 10 ** 12, 0), (1, 10 ** 12 - 5, 0), (2, BIG, 0)]
        asked = made(frames, [], strays)
        self.assertEqual(self.beats(asked, 9), [10 ** 12 - 5, 10 ** 12 - 4, 10 ** 12, 10 ** 12 + 1, BIG, None])


class Walked(unittest.TestCase):
    def told(self, asked, low, high):
        """The told beats behind each moment from low to high are those of the walk."""
        wanted = eventful(asked, low + 1, high + 60)
        for moment in range(low, high + 1):
            rest = [beat for beat in wanted if moment < beat <= BIG]
            told = next_event(asked, moment)
            if rest:
                self.assertEqual(told, rest[0], (asked, moment))
            elif told is not None:
                self.assertGreater(told, high + 60, (asked, moment))

    def test_near(self):
        source = random.Random(211)
        for turn in range(70):
            asked = some_yard(source, far=60, longest=source.choice((5, 30)), most_hands=source.choice((1, 3, 16)))
            if turn % 3 == 0:
                asked = lively_yard(source, 60, most_frames=4)
            self.told(asked, 0, 80)

    def test_far(self):
        source = random.Random(212)
        for turn in range(60):
            far = source.choice((10 ** 4, 10 ** 18, BIG))
            asked = lively_yard(source, far) if turn % 2 else some_yard(source, far, 5, 2)
            edges = [edge for hand in asked[4] for edge in hand[2:] if edge is not None and edge >= 9]
            for moment in [source.randint(1, BIG - 9), source.randint(1, far)] + [edge - 4 for edge in edges[:3]]:
                if 0 < moment <= BIG - 9:
                    self.told(asked, moment, moment + 8)
            self.told(asked, BIG - 9, BIG)

    def test_what_is_told_far_off_is_one_and_nothing_is_before_it(self):
        source = random.Random(213)
        found = 0
        for _ in range(60):
            asked = some_yard(source, source.choice((10 ** 4, BIG)), 9, 2, 2)
            moment = source.choice((300, source.randint(0, BIG)))
            told = next_event(asked, moment)
            if told is not None and told > moment + 100:
                found += 1
                self.assertEqual(eventful(asked, told - 30, told), [told], asked)
                for _ in range(5):
                    low = source.randint(moment + 1, told - 40)
                    self.assertEqual(eventful(asked, low, low + 30), [], asked)
        self.assertGreater(found, 8)

    def test_what_is_handed_in_stays_and_the_same_is_told_again(self):
        source = random.Random(214)
        for _ in range(10):
            asked = some_yard(source, far=BIG, longest=5, most_frames=2)
            kept = copy.deepcopy(asked)
            moments = (BIG - 1, 0, 77, 10 ** 18)
            told = [next_event(asked, moment) for moment in moments]
            self.assertEqual([next_event(kept, moment) for moment in moments], told)
            self.assertEqual(asked, kept)


class Refused(unittest.TestCase):
    some = made([(0, 1, 0, 3, 2, ((2, 0),))], [ALWAYS])

    def test_no_moments(self):
        for odd in NO_MOMENTS:
            with self.assertRaises(NoMoment):
                next_event(self.some, odd)

    def test_no_yard_ahead_of_no_moment(self):
        for odd in (None, (), 7, list(self.some), self.some[:5]):
            for moment in (0, BIG, None, -1, BIG + 1):
                with self.assertRaises(NoYard):
                    next_event(odd, moment)


if __name__ == "__main__":
    unittest.main()
