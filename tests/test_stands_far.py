import random
import unittest

from doffyard.stands import stands
from doffyard.yards import is_yard
from tests.plain_walk import leapt, one_beat, walked
from tests.yard_maker import BIG, some_yard


def one_frame(frame, hands=(), strays=(), pieces=(1, 1)):
    return ((frame,), ((0,),), pieces, "old", tuple(hands), tuple(strays))


def moment_of_spun(asked, frame, spun):
    """The first moment at which the frame has spun so much, or None where it hasn't at BIG."""
    if stands(asked, BIG)[0][frame][0] < spun:
        return None
    low, high = 0, BIG
    while low < high:
        middle = (low + high) // 2
        if stands(asked, middle)[0][frame][0] < spun:
            low = middle + 1
        else:
            high = middle
    return low


class Worked(unittest.TestCase):
    """Far moments worked out by hand."""

    def test_a_frame_that_spins_on(self):
        asked = one_frame((1, 3, 2, 30, 0, ()))
        for moment in (1, 29, 30, 31, 10 ** 15 + 7, BIG - 1, BIG):
            self.assertEqual(stands(asked, moment), (((moment, moment % 30, 0),), (), (), (0, 3 * moment)))

    def test_a_round_of_seven(self):
        asked = one_frame((0, 1, 0, 3, 2, ((2, 0),)), [(0, (0,), 0, None)], pieces=(2, 5))
        self.assertEqual(BIG % 7, 1)
        times = BIG // 7
        idle = ((0, None, 0),)
        self.assertEqual(stands(asked, BIG), (((3 * times + 1, 1, 0),), (), idle, (3 * times + 1, 0)))
        self.assertEqual(stands(asked, BIG - 1), (((3 * times, 0, 0),), (), idle, (3 * times, 0)))
        self.assertEqual(stands(asked, BIG - 2), (((3 * times, 0, 1),), (), idle, (3 * times, 0)))
        self.assertEqual(stands(asked, BIG - 5), (
            ((3 * times - 1, 2, 0),), ((0, 0, BIG - 6),), ((0, (0, 0), 1),), (3 * times - 1, 0)))

    def test_broken_for_ever_keeps_its_beat(self):
        asked = one_frame((0, 2, 1, 5, 0, ((3, 1),)))
        self.assertEqual(stands(asked, BIG), (((BIG, 0, 0),), ((0, 1, 3),), (), (BIG + 3, 0)))

    def test_all_stand_for_ever(self):
        asked = one_frame((0, 1, 0, 5, 9, ((3, 0),)))
        for moment in (3, 4, 1000, BIG - 1, BIG):
            self.assertEqual(stands(asked, moment), (((3, 3, 0),), ((0, 0, 3),), (), (3, 0)))

    def test_all_stand_till_a_hand_comes(self):
        come = BIG - 5
        asked = one_frame((0, 1, 0, 9, 0, ((3, 0),)), [(0, (0,), come, None)], pieces=(2, 1))
        torn = ((0, 0, 3),)
        self.assertEqual(stands(asked, come), (((3, 3, 0),), torn, (None,), (3, 0)))
        self.assertEqual(stands(asked, come + 1), (((3, 3, 0),), torn, ((0, (0, 0), 1),), (3, 0)))
        self.assertEqual(stands(asked, come + 2), (((3, 3, 0),), (), ((0, None, 0),), (3, 0)))
        self.assertEqual(stands(asked, BIG), (((6, 6, 0),), (), ((0, None, 0),), (6, 0)))

    def test_hands_that_come_at_the_end(self):
        frame = (0, 1, 0, 9, 0, ((3, 0),))
        self.assertEqual(stands(one_frame(frame, [(0, (0,), BIG, None)]), BIG)[2], (None,))
        last = one_frame(frame, [(0, (0,), BIG - 1, BIG)], pieces=(1, 1))
        self.assertEqual(stands(last, BIG - 1)[1:3], (((0, 0, 3),), (None,)))
        self.assertEqual(stands(last, BIG)[1:3], ((), ((0, None, 0),)))

    def test_a_hand_that_goes_far_off(self):
        frame = (0, 1, 0, 4, 0, ((4, 0),))
        gone = 10 ** 20
        asked = one_frame(frame, [(0, (0,), 0, gone)], pieces=(2, 1))
        # rounds of six beats: four spin, two are pieced in; it goes in the fourth, so the next break is for ever
        self.assertEqual(gone % 6, 4)
        times = gone // 6
        self.assertEqual(stands(asked, gone), (((4 * times + 4, 0, 0),), ((0, 0, gone),), ((0, None, 0),),
                                               (4 * times + 4, 0)))
        for moment in (gone + 1, gone + 2, BIG):
            self.assertEqual(stands(asked, moment), (((4 * times + 4, 0, 0),), ((0, 0, gone),), (None,),
                                                     (4 * times + 4, 0)))

    def test_strays_to_big(self):
        strays = ((0, BIG - 1, 1), (0, BIG, 0), (0, BIG, 1), (0, BIG, 2))
        asked = one_frame((0, 3, 2, 7, 0, ()), (), strays)
        self.assertEqual(stands(asked, BIG - 2)[1], ())
        self.assertEqual(stands(asked, BIG - 1)[1], ((0, 1, BIG - 1),))
        self.assertEqual(stands(asked, BIG), (((BIG, BIG % 7, 0),), ((0, 1, BIG - 1), (0, 0, BIG), (0, 2, BIG)), (),
                                              (3 * BIG - 1, 0)))

    def test_a_stray_that_is_never_met(self):
        frame = (0, 1, 0, 5, 9, ((3, 0),))
        self.assertEqual(stands(one_frame(frame, (), ((0, 4, 0), (0, BIG, 0))), BIG), stands(one_frame(frame), BIG))

    def test_frames_apart_with_a_long_round_between_them(self):
        frames = tuple((0, 2, 1, full, doff, ((2, 1),)) for full, doff in ((30, 9), (29, 9), (28, 9), (26, 9)))
        asked = (frames, ((0,) * 4,) * 4, (1, 1), "near", (), ())
        told = stands(asked, BIG)
        spun = []
        for full, doff in ((30, 9), (29, 9), (28, 9), (26, 9)):
            rounds, rest = divmod(BIG, full + doff)
            spun.append(rounds * full + min(rest, full))
        self.assertEqual([frame[0] for frame in told[0]], spun)
        self.assertEqual(told[1], tuple((frame, 1, 2) for frame in range(4)))
        self.assertEqual(told[3], (sum(spun) + 8, 0))


class Against(unittest.TestCase):
    """Far moments against walks that the tests have of their own."""

    def test_rounds_of_many_beats_against_the_plain_walk(self):
        source = random.Random(11)
        for _ in range(25):
            asked = some_yard(source, far=3000)
            rows = walked(asked, 3200)
            edges = [edge for hand in asked[4] for edge in hand[2:] if edge is not None]
            for moment in sorted({source.randint(0, 3200) for _ in range(6)} | {3200}
                                 | {edge + by for edge in edges for by in (0, 1)}):
                if moment <= 3200:
                    self.assertEqual(stands(asked, moment), rows[moment], (asked, moment))

    def test_moments_to_big(self):
        source = random.Random(12)
        for _ in range(120):
            asked = some_yard(source, far=BIG, longest=6, most_frames=3)
            self.assertTrue(is_yard(asked))
            for moment in (BIG, source.randint(0, BIG), source.randint(0, 10 ** 12)):
                self.assertEqual(stands(asked, moment), leapt(asked, moment), (asked, moment))

    def beats_about(self, asked, moment):
        """Each of the beats about a moment is what the plain walk makes of what stood before it."""
        low, high = max(0, moment - 2), min(BIG, moment + 3)
        before = stands(asked, low)
        for now in range(low + 1, high + 1):
            after = stands(asked, now)
            self.assertEqual(after, one_beat(asked, before, now), (asked, now))
            before = after

    def test_about_each_coming_going_and_stray(self):
        source = random.Random(13)
        met = 0
        for _ in range(40):
            asked = some_yard(source, far=source.choice((10 ** 4, 10 ** 18, BIG)), longest=5, most_frames=2)
            for _, _, first, last in asked[4]:
                self.beats_about(asked, first)
                if last is not None:
                    self.beats_about(asked, last)
            for frame, spun, _ in asked[5][-3:]:
                moment = moment_of_spun(asked, frame, spun)
                if moment is not None:
                    met += moment > 1000
                    self.beats_about(asked, moment)
            self.beats_about(asked, BIG)
        self.assertGreater(met, 10)

    def test_several_strays_of_one_spun(self):
        source = random.Random(14)
        for _ in range(20):
            frames, walks, pieces, rule, hands, _ = some_yard(source, far=BIG, longest=5, most_frames=2)
            spun = source.randint(1, 10 ** 20)
            strays = tuple((frame, spun + by, thread) for frame, told in enumerate(frames) for by in (0, 1)
                           for thread in range(told[1]))
            asked = (frames, walks, pieces, rule, hands, strays)
            for moment in (BIG, source.randint(0, BIG), spun, spun + 1, 3 * spun):
                self.assertEqual(stands(asked, moment), leapt(asked, moment), (asked, moment))


if __name__ == "__main__":
    unittest.main()
