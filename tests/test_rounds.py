import copy
import random
import unittest

from doffyard.errors import NoMoment, NoYard
from doffyard.rounds import are_alike, round_of
from tests.plain_walk import alike_key, leapt, plain_round, walked
from tests.yard_maker import ALWAYS, BIG, made, some_yard

# a round of seven beats: three spin, two are pieced in, two are doffed in
SEVEN = (0, 1, 0, 3, 2, ((2, 0),))
NO_MOMENTS = (-1, BIG + 1, None, True, False, "0", b"0", (), (0,), [0], {}, set(), len)


def alike_by_walk(asked, moment, other):
    """Whether two moments, near or far, are alike, by the tests' own walk."""
    return (alike_key(asked, leapt(asked, moment), moment) == alike_key(asked, leapt(asked, other), other))


def first_divisors(number):
    """The primes that divide a number."""
    told, by = [], 2
    while by * by <= number:
        if number % by == 0:
            told.append(by)
            while number % by == 0:
                number //= by
        by += 1
    return told + [number] * (number > 1)


class Alike(unittest.TestCase):
    def alike(self, asked, moment, other, wanted):
        self.assertIs(are_alike(asked, moment, other), wanted, (asked, moment, other))
        self.assertIs(are_alike(asked, other, moment), wanted, (asked, other, moment))

    def test_near_moments_against_the_plain_walk(self):
        source = random.Random(21)
        both = [0, 0]
        for _ in range(40):
            asked = some_yard(source, far=40, longest=source.choice((3, 6, 30)), most_frames=source.randint(1, 3))
            keys = [alike_key(asked, row, at) for at, row in enumerate(walked(asked, 120))]
            for moment in source.sample(range(121), 12):
                twins = [at for at in range(121) if keys[at] == keys[moment]]
                for other in twins[:4] + twins[-4:] + source.sample(range(121), 4):
                    wanted = keys[moment] == keys[other]
                    both[wanted] += moment != other
                    self.alike(asked, moment, other, wanted)
        self.assertGreater(both[0], 200)
        self.assertGreater(both[1], 200)

    def test_rounds_apart_to_big(self):
        asked = made([SEVEN], [ALWAYS], pieces=(2, 5))
        for moment in (1, 2, 5, 7, 8, 700, BIG - 70, BIG - 7):
            for other in range(moment + 1, min(moment + 24, BIG + 1)):
                self.alike(asked, moment, other, (other - moment) % 7 == 0)
        far = BIG - (BIG - 3) % 7
        self.alike(asked, 3, far, True)
        for beside in (1, 2, 3, 4, 5, 6):
            self.alike(asked, 3, far - beside, False)

    def test_the_same_moment_twice(self):
        asked = made([SEVEN], [ALWAYS, (0, (0,), 5, 9)], ((0, 20, 0),))
        for moment in (0, 1, 5, 9, 20, 33, BIG):
            self.alike(asked, moment, moment, True)

    def test_a_hand_from_nought_on(self):
        asked = made([(0, 1, 0, 3, 0, ())], [ALWAYS])
        self.alike(asked, 0, 3, False)
        self.alike(asked, 1, 4, True)
        self.alike(made([(0, 1, 0, 3, 0, ())]), 0, 3, True)

    def test_comings_ahead_just_now_and_past(self):
        frame = (0, 1, 0, 1, 0, ())
        for edge in (1, 4, 10 ** 20, BIG - 3):
            # the hand minds nothing that breaks, and goes just behind the beat in which it came
            asked = made([frame], [(0, (0,), edge, edge + 1)])
            self.alike(asked, edge - 1, edge + 2, False)
            self.alike(asked, edge, edge + 2, False)
            self.alike(asked, edge + 1, edge + 2, False)
            self.alike(asked, edge + 2, edge + 3, True)
            self.alike(asked, 0, edge, False)
            self.alike(asked, edge + 2, BIG, True)

    def test_a_coming_at_big_is_never_past(self):
        asked = made([(0, 1, 0, 1, 0, ())], [(0, (0,), BIG, None)])
        self.alike(asked, BIG - 1, BIG, False)
        self.alike(asked, 5, 6, False)
        self.alike(asked, BIG, BIG, True)

    def test_strays_ahead_just_now_and_past(self):
        # the row keeps its thread broken for ever, so that the stray changes nothing when it is met
        frame = (0, 2, 1, 1, 0, ((1, 1),))
        for spun in (5, 10 ** 20, BIG - 4):
            asked = made([frame], [], ((0, spun, 1),))
            self.alike(asked, spun - 2, spun - 1, False)
            self.alike(asked, spun - 1, spun, False)
            self.alike(asked, spun, spun + 1, True)
            self.alike(asked, 1, spun, False)
            self.alike(asked, spun, BIG, True)
            self.alike(made([frame]), spun - 1, spun, True)

    def test_a_stray_that_is_never_reached(self):
        asked = made([(0, 1, 0, 5, 0, ((3, 0),))], [], ((0, 4, 0), (0, BIG, 0)))
        self.alike(asked, 2, 3, False)
        self.alike(asked, 3, 4, True)
        self.alike(asked, 3, BIG, True)

    def test_broken_threads_in_another_order(self):
        # thread 0 comes first in the first filling, and in the second thread 1 is broken already
        frame = (0, 2, 1, 4, 0, ((2, 0), (4, 1)))
        asked = made([frame], [ALWAYS], pieces=(3, 1))
        rows = walked(asked, 60)
        unlike = [(one, two) for one in range(1, 61) for two in range(one)
                  if rows[one][0][0][1:] == rows[two][0][0][1:] and rows[one][2] == rows[two][2]
                  and sorted(torn[:2] for torn in rows[one][1]) == sorted(torn[:2] for torn in rows[two][1])]
        for one, two in unlike[:60]:
            self.alike(asked, one, two, alike_key(asked, rows[one], one) == alike_key(asked, rows[two], two))

    def test_the_order_of_frames_that_no_hand_goes_between(self):
        frames = [(0, 2, 1, 12, 0, ((2, 0),)), (0, 2, 1, 1, 0, ())]
        asked = made(frames, [ALWAYS], ((1, 5, 0),), pieces=(9, 1))
        self.alike(asked, 6, 18, False)
        self.alike(asked, 10, 22, False)
        self.alike(asked, 11, 23, True)

    def test_far_moments_against_the_leaping_walk(self):
        source = random.Random(22)
        both = [0, 0]
        for _ in range(60):
            far = source.choice((10 ** 3, 10 ** 12, BIG))
            asked = some_yard(source, far=far, longest=5, most_frames=2)
            lead, beats, _ = round_of(asked)
            moments = [lead - 1, lead, lead + 1, source.randint(0, BIG), source.randint(0, far)]
            for moment in moments:
                for other in (moment + beats, moment + beats * 7, moment + beats * 10 ** 9, moment + beats + 1):
                    if 0 <= moment and other <= BIG:
                        wanted = alike_by_walk(asked, moment, other)
                        both[wanted] += 1
                        self.alike(asked, moment, other, wanted)
        self.assertGreater(min(both), 100)

    def test_refusals(self):
        asked = made([SEVEN], [ALWAYS])
        for odd in (None, (), 5, list(asked), asked[:5]):
            for moment, other in ((0, 0), (-1, 0), (0, None)):
                with self.assertRaises(NoYard):
                    are_alike(odd, moment, other)
        for odd in NO_MOMENTS:
            for moment, other in ((odd, 0), (0, odd), (odd, odd)):
                with self.assertRaises(NoMoment):
                    are_alike(asked, moment, other)


class Rounds(unittest.TestCase):
    def test_worked(self):
        # the hand comes in beat 1, and at moment 1 one length is spun
        self.assertEqual(round_of(made([SEVEN], [ALWAYS], pieces=(2, 5))), (1, 7, (3, 0)))
        self.assertEqual(round_of(made([(1, 3, 2, 30, 9, ())])), (0, 39, (0, 90)))
        self.assertEqual(round_of(made([(1, 3, 2, 30, 9, ())], [ALWAYS])), (1, 39, (0, 90)))

    def test_all_stand_for_ever(self):
        self.assertEqual(round_of(made([(0, 1, 0, 5, 9, ((3, 0),))])), (3, 1, (0, 0)))
        self.assertEqual(round_of(made([(0, 1, 0, 3, 9, ((3, 0),))])), (12, 1, (0, 0)))
        gone = made([(0, 1, 0, 1, 0, ((1, 0),))], [(0, (0,), 0, BIG)])
        lead, beats, lengths = round_of(gone)
        self.assertEqual((lead > BIG, beats, lengths), (True, 1, (0, 0)))

    def test_two_frames_whose_rounds_have_no_common_divisor(self):
        frames = [(0, 2, 1, 29, 8, ()), (1, 1, 0, 30, 8, ())]
        self.assertEqual(round_of(made(frames)), (0, 37 * 38, (2 * 29 * 38, 30 * 37)))
        frames += [(0, 1, 0, 30, 9, ()), (1, 4, 2, 26, 9, ())]
        told = (0, 37 * 38 * 39 * 35, (2 * 29 * 38 * 39 * 35 + 30 * 37 * 38 * 35, 30 * 37 * 39 * 35 + 4 * 26 * 37 * 38 * 39))
        self.assertEqual(round_of(made(frames)), told)

    def test_against_the_plain_walk(self):
        source = random.Random(23)
        told = 0
        for _ in range(250):
            asked = some_yard(source, far=source.choice((5, 40, 150)), longest=source.choice((3, 7, 12)),
                              most_hands=source.choice((0, 1, 4, 16)))
            wanted = plain_round(asked, 2500)
            if wanted is not None:
                told += 1
                self.assertEqual(round_of(asked), wanted, asked)
        self.assertGreater(told, 230)

    def test_rounds_of_many_beats_against_the_plain_walk(self):
        source = random.Random(24)
        for _ in range(12):
            asked = some_yard(source, far=900, most_frames=2)
            wanted = plain_round(asked, 9000)
            if wanted is not None:
                self.assertEqual(round_of(asked), wanted, asked)

    def held(self, asked):
        """What is told comes again, no moment before it does, and nothing shorter."""
        lead, beats, lengths = round_of(asked)
        self.assertTrue(alike_by_walk(asked, lead, lead + beats), asked)
        if lead > 0:
            self.assertFalse(alike_by_walk(asked, lead - 1, lead - 1 + beats), asked)
        for prime in first_divisors(beats):
            self.assertFalse(alike_by_walk(asked, lead, lead + beats // prime), asked)
        before, after = leapt(asked, lead)[3], leapt(asked, lead + beats)[3]
        self.assertEqual(lengths, (after[0] - before[0], after[1] - before[1]))
        return lead

    def test_far_strays_and_hands(self):
        source = random.Random(25)
        beyond = 0
        for _ in range(70):
            far = source.choice((10 ** 4, 10 ** 18, BIG))
            beyond += self.held(some_yard(source, far=far, longest=5, most_frames=2)) > far // 2
        self.assertGreater(beyond, 25)

    def test_the_lead_lies_behind_what_is_met_last(self):
        # strays that are lost, and hands without work: nothing but these keeps moments from being alike
        frame = (0, 2, 1, 1, 0, ((1, 1),))
        for spun in (1, 2, 10 ** 20, BIG):
            self.assertEqual(round_of(made([frame], [], ((0, spun, 1),))), (spun, 1, (1, 0)))
        calm = (0, 2, 1, 2, 1, ())
        for edge in (1, 10 ** 20, BIG - 1, BIG):
            self.assertEqual(round_of(made([calm], [(0, (0,), 0, edge)])), (edge + 1, 3, (4, 0)))
            self.assertEqual(round_of(made([calm], [(0, (0,), edge, None)])), (edge + 1, 3, (4, 0)))
        slow = made([(0, 1, 0, 1, 9, ())], [], ((0, BIG, 0),))
        self.assertEqual(round_of(slow), (10 * BIG, 1, (0, 0)))

    def test_a_stray_that_is_never_reached(self):
        frame = (0, 1, 0, 5, 0, ((3, 0),))
        self.assertEqual(round_of(made([frame], [], ((0, 4, 0), (0, BIG, 0)))), (3, 1, (0, 0)))
        beside = (1, 2, 1, 4, 1, ())
        self.assertEqual(round_of(made([frame, beside], [], ((0, BIG, 0), (1, 6, 1)))), (7, 5, (0, 4)))

    def test_the_order_of_frames_that_no_hand_goes_between(self):
        frames = [(0, 2, 1, 12, 0, ((2, 0),)), (0, 2, 1, 1, 0, ())]
        asked = made(frames, [ALWAYS], ((1, 5, 0),), pieces=(9, 1))
        self.assertEqual(round_of(asked), plain_round(asked, 100))
        self.assertEqual(round_of(asked)[:2], (11, 12))
        far = made(frames, [ALWAYS], ((1, 12 * 10 ** 20 + 5, 0),), pieces=(9, 1))
        self.assertEqual(round_of(far)[:2], (12 * 10 ** 20 + 11, 12))

    def test_the_order_of_two_that_are_pieced_by_two(self):
        source = random.Random(26)
        frames = [(0, 2, 1, 5, 0, ((2, 0),)), (0, 2, 1, 7, 0, ((3, 0),))]
        for _ in range(40):
            hands = [(0, (0,), source.randint(0, 12), None), (1, (1,), source.randint(0, 12), None)]
            strays = ((0, source.randint(1, 9), 1), (1, source.randint(1, 9), 1))
            asked = made(frames, hands, strays, pieces=(source.randint(1, 9), 1))
            self.assertEqual(round_of(asked), plain_round(asked, 500), asked)

    def test_refusals(self):
        for odd in (None, (), 5, True, "near", [], list(made([SEVEN])), made([SEVEN])[:5], made([])):
            with self.assertRaises(NoYard):
                round_of(odd)

    def test_what_is_told_is_of_tuples_and_the_same_again(self):
        source = random.Random(27)
        for _ in range(20):
            asked = some_yard(source, far=BIG, longest=5, most_frames=2)
            kept = copy.deepcopy(asked)
            told = round_of(asked)
            self.assertIsInstance(told, tuple)
            self.assertIsInstance(told[2], tuple)
            self.assertTrue(all(type(number) is int for number in told[:2] + told[2]))
            are_alike(asked, 5, 10 ** 9)
            self.assertEqual(round_of(kept), told)
            self.assertEqual(asked, kept)


if __name__ == "__main__":
    unittest.main()
