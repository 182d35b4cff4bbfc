import copy
import random
import unittest

from doffyard.beats import frames_do
from doffyard.beside import beside, gone_at, without_stray
from doffyard.calls import least_hands, with_hands
from doffyard.doffings import least_doffers
from doffyard.errors import NoCalls, NoDoffs, NoMany, NoMoment, NoPlain, NoSmall, NoWait, NoYard
from doffyard.papers import (paper_calls, paper_doffers, paper_fewest, paper_plain, paper_round, paper_short, paper_small,
                             paper_stands, paper_unlike)
from doffyard.plain import fewest_hands, plain_worst
from doffyard.rounds import round_of
from doffyard.small import worst_story
from doffyard.stands import stands
from tests.plain_legs import by_legs, is_round, is_unlike, legs_to
from tests.plain_walk import leapt
from tests.test_calls import NO_MANY
from tests.test_checker_legs import CALM, SEVEN, Taken
from tests.test_doffings import some_doffs
from tests.test_plain import FRAMES, NO_WAITS, plain_yard
from tests.test_small import LONE, PAIR, SMALL, some_small
from tests.test_yards import put
from tests.yard_maker import ALWAYS, BIG, changed, lively_yard, made, some_yard

NO_MOMENTS = (-1, BIG + 1, None, True, False, "1", b"1", "", (), (1,), [1], {}, set(), len)
NO_YARDS = (None, (), 7, "x", list(SEVEN), SEVEN[:5], SEVEN + ((),))
# frames whose rounds come again at once after far more than 10000 beats alone
WIDE = made([(0, 1, 0, full, 0, ()) for full in (29, 28, 27, 25)])


def walked_by(legs, moment):
    return moment - sum(beats * times for _, beats, times in legs)


class Papers(Taken):
    def told(self, pair):
        """The claim and the paper, new tuples, that the checker takes."""
        self.assertIsInstance(pair, tuple)
        self.assertEqual(len(pair), 2)
        self.yes(*pair)
        return pair


class Stands(Papers):
    def stands(self, asked, moment):
        """The paper is taken, by the tests' own walk, too; it may be refused where LEGS walk more than 2000 beats."""
        fewest = walked_by(legs_to(asked, moment), moment)
        try:
            claim, legs = self.told(paper_stands(asked, moment))
        except NoMoment:
            self.assertGreater(fewest, 2000, (asked, moment))
            return False
        self.assertEqual(claim, ("stands", asked, moment, stands(asked, moment)))
        self.assertEqual(by_legs(asked, legs, moment), leapt(asked, moment))
        self.assertEqual(walked_by(legs, moment), fewest)
        return True

    def test_worked(self):
        self.assertEqual(paper_stands(SEVEN, 0)[1], ())
        self.assertEqual(paper_stands(SEVEN, 5)[1], ())
        # the round of seven begins at 1, and 10 ** 25 is three more than a multiple of seven
        self.assertEqual(paper_stands(SEVEN, 10 ** 25)[1], ((1, 7, 10 ** 25 // 7 - 1),))
        for moment in (0, 1, 7, 8, 14, 15, 21, 22, 23, BIG - 1, BIG):
            self.assertTrue(self.stands(SEVEN, moment))

    def test_strays_comings_and_goings_on_the_way(self):
        for moment in (999, 1000, 1001, 1010, 1999, 2000, 2001, 2002, 2999, 3000, 3001, 9000, 10 ** 18, BIG):
            self.assertTrue(self.stands(CALM, moment))

    def test_near(self):
        source = random.Random(231)
        for turn in range(60):
            asked = some_yard(source, far=60, longest=source.choice((5, 30)), most_hands=source.choice((1, 3, 16)))
            if turn % 3 == 0:
                asked = lively_yard(source, 60, most_frames=4)
            for moment in (0, 1, source.randint(2, 60), source.randint(60, 200)):
                self.assertTrue(self.stands(asked, moment))

    def test_far(self):
        source = random.Random(232)
        given = 0
        for turn in range(80):
            far = source.choice((10 ** 4, 10 ** 18, BIG))
            asked = lively_yard(source, far) if turn % 2 else some_yard(source, far, 5, 2)
            for moment in (source.randint(0, far), source.randint(0, BIG), BIG):
                given += self.stands(asked, moment)
        self.assertGreater(given, 200)

    def test_long_rounds(self):
        for fulls, least in (((29, 30), 870), ((30, 29, 5), 870), ((25, 28), 700), ((29, 23), 667)):
            asked = made([(0, 1, 0, full, 0, ()) for full in fulls])
            self.assertEqual(round_of(asked)[1], least)
            for moment in (least * 2 - 1, least * 2, 5 * least + 7, 10 ** 20 + least - 1, BIG):
                self.assertTrue(self.stands(asked, moment))

    def test_no_legs_that_are_short_enough(self):
        self.assertEqual(round_of(WIDE)[1], 548100)
        for moment in (2000, 9999, 10000):
            self.assertEqual(paper_stands(WIDE, moment)[1], ())
            self.yes(*paper_stands(WIDE, moment))
        for moment in (10001, 10 ** 6 * 2, BIG):
            with self.assertRaises(NoMoment):
                paper_stands(WIDE, moment)

    def test_refused(self):
        for odd in NO_MOMENTS:
            with self.assertRaises(NoMoment):
                paper_stands(SEVEN, odd)
            for other in NO_YARDS:
                with self.assertRaises(NoYard):
                    paper_stands(other, odd)
        for odd in NO_YARDS:
            with self.assertRaises(NoYard):
                paper_stands(odd, 5)


class Rounds(Papers):
    def round(self, asked):
        lead, beats, _ = round_of(asked)
        if lead > BIG or beats > 10000:
            with self.assertRaises(NoMoment):
                paper_round(asked)
            return False
        try:
            claim, legs = self.told(paper_round(asked))
        except NoMoment:
            self.assertGreater(walked_by(legs_to(asked, lead), lead), 2000, asked)
            return False
        self.assertEqual(claim, ("round", asked, lead, beats))
        self.assertTrue(is_round(asked, lead, beats, legs))
        return True

    def test_worked(self):
        self.assertEqual(paper_round(SEVEN), (("round", SEVEN, 1, 7), ()))
        self.assertTrue(self.round(CALM))

    def test_some(self):
        source = random.Random(233)
        given = 0
        for turn in range(80):
            far = source.choice((50, 10 ** 4, 10 ** 18, BIG // 10))
            asked = lively_yard(source, far) if turn % 2 else some_yard(source, far, 5, 2)
            given += self.round(asked)
        self.assertGreater(given, 70)

    def test_bounds(self):
        # a hand that is there to BIG - 1, and so from BIG on moments are alike; with one more they are behind BIG
        frame = (0, 1, 0, 1, 0, ())
        for end, wanted in ((BIG - 1, True), (BIG, False)):
            asked = made([frame], [(0, (0,), 0, end)])
            self.assertEqual(round_of(asked)[0], end + 1)
            self.assertEqual(self.round(asked), wanted)
        for fulls, beats in (((25, 16, 25), 400), ((25, 16, 3, 8), 1200), ((27, 16, 23), 9936), ((27, 13, 29), 10179),
                             ((29, 28, 27, 25), 548100)):
            asked = made([(0, 1, 0, full, 0, ()) for full in fulls])
            self.assertEqual(round_of(asked)[1], beats)
            self.assertEqual(self.round(asked), beats <= 10000)

    def test_a_round_of_just_so_many_beats(self):
        # two frames that share a hand have a round of 625 beats, and one by itself of 16
        frames = [(0, 1, 0, 25, 6, ((8, 0),)), (0, 1, 0, 30, 7, ((18, 0),)), (0, 1, 0, 16, 0, ())]
        asked = made(frames, [(0, (0, 1), 0, None)], walks=((0, 1, 0), (5, 0, 0), (0, 0, 0)))
        self.assertEqual(round_of(asked)[1], 10000)
        self.assertTrue(self.round(asked))

    def test_refused(self):
        for odd in NO_YARDS:
            with self.assertRaises(NoYard):
                paper_round(odd)


class Unlike(Papers):
    def unlike(self, asked, other):
        first, _ = beside(asked, other)
        if first is None or first > BIG:
            with self.assertRaises(NoMoment):
                paper_unlike(asked, other)
            return 0
        try:
            claim, papers = self.told(paper_unlike(asked, other))
        except NoMoment:
            self.assertGreater(max(walked_by(legs_to(one, first - 1), first - 1) for one in (asked, other)), 2000)
            return 0
        pairs = list(zip(frames_do(asked, first), frames_do(other, first)))
        frame = [mine != theirs for mine, theirs in pairs].index(True)
        self.assertEqual(claim, ("unlike", asked, other, frame, first))
        self.assertTrue(is_unlike(asked, other, frame, first, papers))
        return first

    def test_worked(self):
        spins = (0, 1, 0, 3, 0, ())
        self.assertEqual(paper_unlike(made([spins] * 2), made([spins, (0, 1, 0, 3, 1, ())])),
                         (("unlike", made([spins] * 2), made([spins, (0, 1, 0, 3, 1, ())]), 1, 4), ((), ())))
        # of several frames the least
        claim, _ = self.told(paper_unlike(made([spins] * 3), made([spins] + [(0, 1, 0, 3, 1, ())] * 2)))
        self.assertEqual(claim[3:], (1, 4))

    def test_some(self):
        source = random.Random(234)
        near, far_off = 0, 0
        for turn in range(120):
            far = source.choice((60, 10 ** 4, 10 ** 18, BIG))
            if turn % 2:
                asked = lively_yard(source, far)
                other = without_stray(asked, source.randrange(len(asked[5])))
            else:
                asked = some_yard(source, far, 4, 2, 2)
                other = changed(source, asked, far)
            first = self.unlike(asked, other)
            near += 0 < first <= 1000
            far_off += first > 1000
        self.assertGreater(near, 10)
        self.assertGreater(far_off, 10)

    def test_none_and_beyond_big(self):
        with self.assertRaises(NoMoment):
            paper_unlike(SEVEN, SEVEN)
        for end, wanted in ((BIG - 9, True), (BIG, False)):
            other = gone_at(SEVEN, 0, end)
            self.assertEqual(beside(SEVEN, other)[0] <= BIG, wanted)
            self.assertEqual(self.unlike(SEVEN, other) > 0, wanted)
        # just at BIG and one behind it
        spins = made([(0, 1, 0, 3, 0, ())])
        for spun, wanted in ((BIG - 1, BIG), (BIG, 0)):
            self.assertEqual(self.unlike(spins, made([(0, 1, 0, 3, 0, ())], [], [(0, spun, 0)])), wanted)

    def test_refused(self):
        two = made([(0, 1, 0, 3, 0, ())] * 2)
        for pair in ((SEVEN, two), (two, SEVEN)):
            with self.assertRaises(NoYard):
                paper_unlike(*pair)
        for odd in NO_YARDS:
            for pair in ((odd, SEVEN), (SEVEN, odd), (odd, odd)):
                with self.assertRaises(NoYard):
                    paper_unlike(*pair)


class Others(Papers):
    def test_plain(self):
        for many in (1, 2, 3, 9, 16):
            for pieces in ((4, 4), (1, 1)) + (((3, 7),) if many == 1 else ()):
                asked = plain_yard(FRAMES, many, pieces, ((0, 3, 1),))
                beats, rows = plain_worst(asked)
                self.assertEqual(self.told(paper_plain(asked)), (("plain", asked, beats), rows))
        for odd in (put(asked, (3,), "near"), made([(0, 1, 0, 3, 0, ())])):
            with self.assertRaises(NoPlain):
                paper_plain(odd)
        for odd in NO_YARDS:
            with self.assertRaises(NoYard):
                paper_plain(odd)

    def test_fewest(self):
        ones, none = 0, 0
        for asked in (plain_yard(FRAMES, 2, (4, 4)), plain_yard([(1, 1, 0, 1, 0, ())], 3, (9, 2)),
                      plain_yard([(0, 4, 0, 30, 0, ())] * 4, 1, (9, 9), places=[2])):
            for wait in list(range(0, 50)) + [143, 144, BIG, 10 ** 39]:
                how = fewest_hands(asked, wait)
                if how is None:
                    none += 1
                    with self.assertRaises(NoWait):
                        paper_fewest(asked, wait)
                    continue
                claim, paper = self.told(paper_fewest(asked, wait))
                self.assertEqual(claim, ("fewest", asked, wait, how))
                self.assertEqual(paper is None, how == 1)
                ones += how == 1
        self.assertGreater(min(ones, none), 3)

    def test_fewest_refused(self):
        asked = plain_yard(FRAMES, 2, (4, 4))
        for odd in NO_WAITS:
            with self.assertRaises(NoWait):
                paper_fewest(asked, odd)
            with self.assertRaises(NoPlain):
                paper_fewest(plain_yard(FRAMES, 1, (4, 5)), odd)
            with self.assertRaises(NoPlain):
                paper_fewest(put(asked, (3,), "sort"), odd)
            with self.assertRaises(NoYard):
                paper_fewest(asked[:5], odd)

    def test_small(self):
        source = random.Random(235)
        words = set()
        for small in [SMALL, LONE, PAIR] + [some_small(source) for _ in range(40)]:
            told = worst_story(small)
            words.add(told[0])
            wanted = (("story", small, told[1]), told[2])
            if told[0] == "endless":
                wanted = (("endless", small), (told[1], told[2]))
            self.assertEqual(self.told(paper_small(small)), wanted)
        self.assertEqual(words, {"waits", "endless"})
        for odd in (None, (), 7, list(SMALL), SMALL[:4], SEVEN):
            with self.assertRaises(NoSmall):
                paper_small(odd)

    def test_calls(self):
        source = random.Random(236)
        self.assertEqual(self.told(paper_calls(())), (("calls", (), 0), ((), None)))
        shorts = 0
        for _ in range(60):
            high = source.choice((3, 9, BIG))
            calls = []
            for _ in range(source.randint(1, 12)):
                beat = source.randint(1, high)
                calls.append((beat, min(BIG, beat + source.choice((0, 1, source.randint(0, high))))))
            calls = tuple(sorted(calls))
            how, plan, stretch = least_hands(calls)
            self.assertEqual(self.told(paper_calls(calls)), (("calls", calls, how), (plan, stretch)))
            for many in range(how + 2):
                if many >= how:
                    with self.assertRaises(NoMany):
                        paper_short(calls, many)
                else:
                    shorts += 1
                    wanted = (("short", calls, many), with_hands(calls, many)[1:])
                    self.assertEqual(self.told(paper_short(calls, many)), wanted)
        self.assertGreater(shorts, 60)

    def test_calls_refused(self):
        for odd in (None, 7, [], ((2, 1),), ((0, 1),), ((1, 1),) * 13, ((3, 3), (1, 1))):
            with self.assertRaises(NoCalls):
                paper_calls(odd)
            for many in (0, None):
                with self.assertRaises(NoCalls):
                    paper_short(odd, many)
        for odd in NO_MANY:
            with self.assertRaises(NoMany):
                paper_short(((1, 1),), odd)
        for many in (0, 1, BIG):
            with self.assertRaises(NoMany):
                paper_short((), many)

    def test_doffers(self):
        source = random.Random(237)
        self.assertEqual(self.told(paper_doffers(())), (("doffers", (), 0), ((), None)))
        for _ in range(60):
            doffs = some_doffs(source, source.randint(1, 30), source.choice((20, 100, BIG)), source.choice((3, 9, 40)))
            how, plan, beat = least_doffers(doffs)
            self.assertEqual(self.told(paper_doffers(doffs)), (("doffers", doffs, how), (plan, beat)))
        last = tuple((BIG, BIG + 9, frame) for frame in range(4))
        self.told(paper_doffers(last))
        for odd in (None, 7, [], list(last), ((5, 4, 0),), last[::-1], last * 2):
            with self.assertRaises(NoDoffs):
                paper_doffers(odd)

    def test_what_is_handed_in_stays_and_the_same_is_told_again(self):
        frame = (0, 1, 0, 4, 0, ())
        pair = (made([frame], [ALWAYS], [(0, 9, 0)]), made([frame], [ALWAYS]))
        plain = plain_yard(FRAMES, 2, (4, 4))
        calls, doffs = ((1, 1), (1, 2)), ((1, 5, 0), (3, 4, 1))
        asks = ((paper_stands, (CALM, BIG)), (paper_round, (CALM,)), (paper_unlike, pair), (paper_plain, (plain,)),
                (paper_fewest, (plain, 9)), (paper_small, (SMALL,)), (paper_calls, (calls,)), (paper_short, (calls, 0)),
                (paper_doffers, (doffs,)))
        for ask, parts in asks:
            kept = copy.deepcopy(parts)
            told = ask(*parts)
            self.assertEqual(ask(*kept), told)
            self.assertEqual(parts, kept)


if __name__ == "__main__":
    unittest.main()
