"""The claims of the checker that go by LEGS."""

import random
import unittest

from doffyard.beside import beside, without_stray
from doffyard.checker import holds
from doffyard.rounds import round_of
from doffyard.stands import stands
from tests.plain_legs import by_legs, is_round, is_unlike, legs_to, same
from tests.plain_walk import frame_words, leapt, walked
from tests.test_yards import Odd, part, paths, put
from tests.yard_maker import ALWAYS, BIG, lively_yard, made, some_yard

SEVEN = made([(0, 1, 0, 3, 2, ((2, 0),))], [ALWAYS], pieces=(2, 5))
# spins on and on, a round of four; a hand comes and goes, and a stray is met
CALM = made([(0, 2, 1, 4, 0, ())], [(0, (0,), 0, None), (0, (0,), 2000, 3000)], ((0, 1000, 1),), pieces=(3, 1))
FAR = 10 ** 25


class Taken(unittest.TestCase):
    def yes(self, claim, paper):
        self.assertIs(holds(claim, paper), True, (claim, paper))

    def no(self, claim, paper):
        self.assertIs(holds(claim, paper), False, (claim, paper))

    def agrees(self, claim, paper, wanted):
        (self.yes if wanted else self.no)(claim, paper)


def nudged(legs):
    """The legs with one number one more or less, with one leg less or twice, with two in another order."""
    told = []
    for at, leg in enumerate(legs):
        for place in range(3):
            for by in (-1, 1):
                told.append(put(legs, (at, place), leg[place] + by))
        told += [legs[:at] + legs[at + 1:], legs[:at] + (leg,) + legs[at:]]
        told += [legs[:at] + (legs[at + 1], leg) + legs[at + 2:]] if at + 1 < len(legs) else []
    return told


class Stands(Taken):
    def stands(self, asked, moment, legs, wanted=True):
        self.agrees(("stands", asked, moment, stands(asked, moment)), legs, wanted)

    def test_without_legs(self):
        for moment in (0, 1, 5, 7, 100, 9999, 10000):
            self.stands(SEVEN, moment, ())
        for moment in (10001, 10 ** 6, BIG):
            self.stands(SEVEN, moment, (), False)

    def test_worked_legs(self):
        self.assertEqual(FAR % 7, 3)
        for legs in (((1, 7, FAR // 7 - 1),), ((1, 7, FAR // 7 - 2),), ((1, 14, FAR // 14 - 1),),
                     ((1, 7, 10 ** 9), (1 + 7 * (10 ** 9 + 1), 7, FAR // 7 - 2 - 10 ** 9),), ((3, 7, FAR // 7 - 1),),
                     ((1, 7, 1), (15, 7, FAR // 7 - 3)), ((1, 7, 1), (99, 21, FAR // 21 - 7))):
            self.assertEqual(by_legs(SEVEN, legs, FAR), leapt(SEVEN, FAR))
            self.stands(SEVEN, FAR, legs)
        for legs in (((0, 7, FAR // 7 - 1),), ((1, 6, FAR // 6 - 2),), ((1, 8, FAR // 8 - 2),), ((4, 7, FAR // 7 - 1),),
                     ((1, 7, FAR // 7),), ((1, 7, FAR // 7 - 1500),), ((-6, 7, FAR // 7),), ((1, 7, 0),), ((1, 7, -1),),
                     ((1, 0, 5),), ((1, -7, 1),), ((1, 7, FAR // 7 - 1), (FAR, 7, 1)), ((15, 7, FAR // 7 - 3), (1, 7, 1)),
                     ((1, 7, 2), (15, 7, FAR // 7 - 3))):
            self.assertIsNone(by_legs(SEVEN, legs, FAR))
            self.stands(SEVEN, FAR, legs, False)

    def test_the_last_end_no_more_than_the_moment(self):
        for moment in range(1, 40):
            self.stands(SEVEN, moment, ((1, 7, 2),), moment >= 22)

    def test_ten_thousand_beats(self):
        for moment, wanted in ((7 * 10 ** 6 + 9993, True), (7 * 10 ** 6 + 9994, True), (7 * 10 ** 6 + 10000, True),
                               (7 * 10 ** 6 + 10001, False), (7 * 10 ** 6 + 10002, False)):
            self.stands(SEVEN, moment, ((1, 7, 10 ** 6),), wanted)
            self.stands(SEVEN, moment, ((5001, 7, 10 ** 6),), wanted)
        for more in range(7):
            self.stands(SEVEN, 1 + 9996 * 100 + more, ((1, 9996, 99),), more <= 3)

    def test_many_legs_walk_ten_thousand_beats_in_all(self):
        legs = tuple((1 + 14 * at, 7, 1) for at in range(1428))
        self.stands(SEVEN, 14 * 1428 + 1, legs)
        self.stands(SEVEN, 14 * 1428 + 4, legs)
        self.stands(SEVEN, 14 * 1428 + 5, legs, False)

    def test_legs_over_a_stray(self):
        # at moment 1000 the stray is met; it is whole behind beat 1003
        for first, times, wanted in ((996, 1, False), (992, 1, False), (988, 1, True), (988, 2, False), (991, 1, True),
                                     (992, 2, False), (1, 248, True), (1, 249, False), (4, 247, True), (4, 248, False),
                                     (1000, 4, False), (1003, 4, True), (1002, 4, False), (1004, 9, True)):
            legs = ((first, 4, times),)
            self.assertEqual(by_legs(CALM, legs, 1500) is not None, wanted, legs)
            self.stands(CALM, 1500, legs, wanted)

    def test_legs_over_a_coming_and_a_going(self):
        for first, times, wanted in ((1992, 1, True), (1993, 1, False), (1996, 1, False), (2000, 1, False),
                                     (2001, 1, True), (1004, 248, True), (1004, 249, False), (2001, 248, True),
                                     (2001, 249, False), (2992, 1, True), (2993, 1, False), (2999, 1, False),
                                     (3000, 1, False), (3001, 1, True), (0, 1, False), (1, 1, True)):
            legs = ((first, 4, times),)
            self.assertEqual(by_legs(CALM, legs, 4500) is not None, wanted, legs)
            self.stands(CALM, 4500, legs, wanted)

    def test_a_leg_from_nought(self):
        asked = made([(0, 2, 1, 4, 0, ())])
        self.stands(asked, BIG, ((0, 4, BIG // 4 - 1),))
        self.stands(asked, BIG, ((-1, 4, BIG // 4 - 1),), False)

    def test_since_moves_with_the_rounds_above_from(self):
        asked = made([(0, 2, 1, 4, 0, ((2, 0),)), (0, 2, 1, 3, 0, ((2, 1),))], [ALWAYS], pieces=(2, 1))
        told = stands(asked, 12 * 10 ** 9 + 3)
        self.assertEqual(told[1], ((1, 1, 2), (0, 0, 12 * 10 ** 9 + 2)))
        legs = ((12, 12, 10 ** 9 - 2),)
        self.yes(("stands", asked, 12 * 10 ** 9 + 3, told), legs)
        self.no(("stands", asked, 12 * 10 ** 9 + 3, put(told, (1, 1, 2), 2)), legs)
        self.no(("stands", asked, 12 * 10 ** 9 + 3, put(told, (1, 0, 2), 12 * 10 ** 9 + 2)), legs)
        # at FROM itself thread 0 has just broken, a round later it has broken anew
        self.stands(asked, 12 * 10 ** 9 + 3, ((14, 12, 10 ** 9 - 3),))

    def test_what_stands_told_otherwise(self):
        asked = lively_yard(random.Random(91), 50)
        for moment in (0, 3, 20):
            told = stands(asked, moment)
            self.yes(("stands", asked, moment, told), ())
            for path in paths(told):
                old = part(told, path)
                for odd in (Odd(), "", [], {}, b"0", "0"):
                    self.no(("stands", asked, moment, put(told, path, odd)), ())
                if isinstance(old, tuple):
                    self.no(("stands", asked, moment, put(told, path, list(old))), ())
                    self.no(("stands", asked, moment, put(told, path, old + (0,))), ())
                    self.no(("stands", asked, moment, put(told, path, old[:-1]) if old else None), ())
                elif old is None:
                    self.no(("stands", asked, moment, put(told, path, 0)), ())
                else:
                    self.no(("stands", asked, moment, put(told, path, old + 1)), ())
                    self.no(("stands", asked, moment, put(told, path, old - 1)), ())
                    self.no(("stands", asked, moment, put(told, path, None)), ())
                    if old in (0, 1):
                        self.no(("stands", asked, moment, put(told, path, bool(old))), ())

    def test_other_kinds(self):
        claim = ("stands", SEVEN, 30, stands(SEVEN, 30))
        legs = ((1, 7, 2),)
        self.yes(claim, legs)
        for odd in (None, True, 0, "", b"", [], {}, set(), Odd(), len, list(legs), ([1, 7, 2],), ((1, 7),), ((1, 7, 2, 0),),
                    (1, 7, 2), ((True, 7, 2),), ((1, 7, True),), ((1, True, 2),), (("1", 7, 2),), ((1, 7, "2"),),
                    ((1, None, 2),), ((Odd(), 7, 2),), (Odd(),), (None,), "abc", ("abc",), ((1, 7, 2), ())):
            self.no(claim, odd)
        for odd in (None, True, -1, BIG + 1, "30", (30,), [], Odd()):
            self.no(("stands", SEVEN, odd, claim[3]), legs)
            self.no(("stands", odd, 30, claim[3]), legs)
        for moment in (29, 31):
            self.no(("stands", SEVEN, moment, claim[3]), legs)
        for odd in (claim[:3], claim + (0,), list(claim), ("stands",), ("Stands",) + claim[1:], (b"stands",) + claim[1:]):
            self.no(odd, legs)

    def test_one_beat_as_a_number_and_as_a_truth(self):
        self.yes(("stands", SEVEN, 1, stands(SEVEN, 1)), ())
        self.no(("stands", SEVEN, True, stands(SEVEN, 1)), ())
        self.no(("stands", SEVEN, False, stands(SEVEN, 0)), ())

    def test_many_yards_and_papers_wrong_by_one_thing(self):
        source = random.Random(92)
        both = [0, 0]
        for turn in range(60):
            far = source.choice((400, 10 ** 12, BIG))
            asked = lively_yard(source, far) if turn % 2 else some_yard(source, far, 4, 2, 2)
            moment = source.choice((source.randint(0, far), source.randint(0, 300), far))
            legs = legs_to(asked, moment)
            told = leapt(asked, moment)
            wanted = by_legs(asked, legs, moment)
            self.agrees(("stands", asked, moment, told), legs, same(told, wanted))
            for paper in source.sample(nudged(legs), min(14, len(nudged(legs)))):
                good = same(told, by_legs(asked, paper, moment))
                both[good] += 1
                self.agrees(("stands", asked, moment, told), paper, good)
        self.assertGreater(both[0], 150)
        self.assertGreater(both[1], 30)


class Rounds(Taken):
    def test_worked(self):
        for lead in (1, 2, 5, 8, 10 ** 4):
            for beats in range(1, 30):
                self.agrees(("round", SEVEN, lead, beats), (), beats % 7 == 0)
        self.no(("round", SEVEN, 0, 7), ())
        self.no(("round", SEVEN, 10001, 7), ())
        for lead in (FAR, BIG):
            legs = ((1, 7, lead // 7 - 2),)
            self.yes(("round", SEVEN, lead, 7), legs)
            self.yes(("round", SEVEN, lead, 9996), legs)
            for beats in (6, 8, 0, -7, True, None, "7", 10003, 10001, 9995):
                self.no(("round", SEVEN, lead, beats), legs)
        self.no(("round", SEVEN, BIG + 1, 7), ((1, 7, BIG // 7 - 2),))

    def test_a_round_of_just_ten_thousand(self):
        for frames, beats in (([(0, 1, 0, 16, 0, ()), (0, 1, 0, 25, 0, ())], 10000),
                              ([(0, 1, 0, 1, 0, ())], 10000)):
            asked = made(frames)
            self.yes(("round", asked, 0, beats), ())
            self.yes(("round", asked, 10000, beats), ())
            self.no(("round", asked, 0, beats + 400), ())
        self.no(("round", made([(0, 1, 0, 1, 0, ())]), 0, 10001), ())

    def test_the_round_itself_is_walked_besides(self):
        asked = made([(0, 1, 0, 1, 0, ())])
        self.yes(("round", asked, 10000, 10000), ())
        self.no(("round", asked, 10001, 1), ())
        self.yes(("round", asked, 20000, 10000), ((0, 5000, 2),))

    def test_strays_comings_and_goings(self):
        frame = (0, 2, 1, 1, 0, ((1, 1),))
        asked = made([frame], [], ((0, 50, 1),))
        for lead in range(1, 60):
            self.agrees(("round", asked, lead, 1), (), lead >= 50)
        for edge in (0, 9):
            asked = made([(0, 1, 0, 1, 0, ())], [(0, (0,), edge, edge + 5)])
            for lead in range(0, 20):
                self.agrees(("round", asked, lead, 1), (), lead >= edge + 6)
        never = made([(0, 1, 0, 5, 0, ((3, 0),))], [], ((0, BIG, 0),))
        self.yes(("round", never, 3, 1), ())
        self.no(("round", never, 2, 1), ())

    def test_the_house_and_the_plain_walk(self):
        source = random.Random(93)
        both, taken = [0, 0], 0
        for turn in range(50):
            far = source.choice((100, 10 ** 12, BIG))
            asked = lively_yard(source, far) if turn % 2 else some_yard(source, far, 4, 2, 2)
            lead, beats, _ = round_of(asked)
            if lead > BIG or beats > 400:
                continue
            legs = legs_to(asked, lead)
            taken += is_round(asked, lead, beats, legs)
            for claim in ((lead, beats), (lead - 1, beats), (lead + 1, beats), (lead, beats + 1), (lead, 2 * beats)):
                for paper in [legs] + nudged(legs)[:6]:
                    good = is_round(asked, claim[0], claim[1], paper)
                    both[good] += 1
                    self.agrees(("round", asked) + claim, paper, good)
        self.assertGreater(taken, 20)
        self.assertGreater(min(both), 60)

    def test_other_kinds(self):
        claim = ("round", SEVEN, 8, 7)
        self.yes(claim, ())
        for odd in (None, True, 0, [], "", {}, Odd(), (None,), ((1, 7),)):
            self.no(claim, odd)
        for path in paths(claim):
            for odd in (None, "", [], {}, Odd(), (), b"round"):
                free = isinstance(odd, tuple) and path in ((1, 4), (1, 5), (1, 0, 0, 5))
                if not free and not (odd is None and path == (1, 4, 0, 3)):
                    self.no(put(claim, path, odd), ())
        for odd in (claim[:3], claim + (1,), list(claim), ("rounds",) + claim[1:]):
            self.no(odd, ())


class Unlike(Taken):
    gone = SEVEN[:4] + (((0, (0,), 0, 20),), ())

    def test_worked(self):
        first, last = beside(SEVEN, self.gone)
        self.assertEqual((first, last), (26, None))
        for beat in range(1, 80):
            words = [frame_words(asked, walked(asked, beat - 1)[-1])[0] for asked in (SEVEN, self.gone)]
            self.agrees(("unlike", SEVEN, self.gone, 0, beat), ((), ()), words[0] != words[1])
            self.agrees(("unlike", self.gone, SEVEN, 0, beat), ((), ()), words[0] != words[1])
            self.no(("unlike", SEVEN, SEVEN, 0, beat), ((), ()))

    def test_far(self):
        beat = 7 * (BIG // 7)
        self.assertEqual(frame_words(SEVEN, leapt(SEVEN, beat - 1)), ("doffed",))
        legs = ((1, 7, BIG // 7 - 2),), ((24, 1, beat - 100),)
        self.yes(("unlike", SEVEN, self.gone, 0, beat), legs)
        self.no(("unlike", SEVEN, self.gone, 0, beat), legs[::-1])
        self.no(("unlike", self.gone, SEVEN, 0, beat), legs)
        self.no(("unlike", SEVEN, self.gone, 0, beat), ((), legs[1]))
        self.no(("unlike", SEVEN, self.gone, 0, beat), (legs[0], ()))
        self.no(("unlike", SEVEN, self.gone, 0, beat - 4), legs)

    def test_bounds_of_the_beat(self):
        other = made([(0, 1, 0, 3, 2, ())])
        doffed = made([(0, 1, 0, 1, 9, ())])
        self.no(("unlike", other, doffed, 0, 1), ((), ()))
        self.yes(("unlike", other, doffed, 0, 2), ((), ()))
        for beat in (0, -1, BIG + 1, True, None, "2", [2], Odd()):
            self.no(("unlike", other, doffed, 0, beat), ((), ()))
        low = made([(0, 1, 0, 10, 0, ())]), made([(0, 1, 0, 9, 1, ())])
        self.yes(("unlike",) + low + (0, BIG), (((0, 10, BIG // 10 - 2),), ((0, 10, BIG // 10 - 2),)))
        self.no(("unlike",) + low + (0, BIG - 1), (((0, 10, BIG // 10 - 2),), ((0, 10, BIG // 10 - 2),)))

    def test_ten_thousand_beats_for_each(self):
        low = made([(0, 1, 0, 1, 0, ())]), made([(0, 1, 0, 1, 1, ())])
        self.yes(("unlike",) + low + (0, 10000), ((), ()))
        doffed = made([(0, 1, 0, 1, 2, ())])
        self.yes(("unlike", low[0], doffed, 0, 10001), ((), ()))
        self.no(("unlike",) + low + (0, 10002), ((), ()))
        self.no(("unlike",) + low + (0, 10002), (((0, 2, 9),), ()))
        self.yes(("unlike",) + low + (0, 10002), (((0, 2, 9),), ((0, 2, 9),)))

    def test_frames(self):
        frames = [(0, 1, 0, 3, 0, ()), (1, 1, 0, 3, 0, ())]
        asked, other = made(frames), made(frames[:1] + [(1, 1, 0, 3, 1, ())])
        self.yes(("unlike", asked, other, 1, 4), ((), ()))
        for odd in (0, 2, -1, True, None, "1", (1,), Odd()):
            self.no(("unlike", asked, other, odd, 4), ((), ()))
        self.no(("unlike", asked, made(frames + frames[:1]), 1, 4), ((), ()))
        self.no(("unlike", made(frames[:1]), made([(1, 1, 0, 3, 1, ()), frames[0]]), 0, 4), ((), ()))
        self.no(("unlike", made([frames[0]] * 2), made([(1, 1, 0, 3, 1, ())]), 0, 4), ((), ()))

    def test_the_house_and_the_plain_walk(self):
        source = random.Random(94)
        both = [0, 0]
        for _ in range(70):
            asked = lively_yard(source, source.choice((100, 10 ** 12, BIG // 10)))
            other = without_stray(asked, source.randrange(len(asked[5])))
            first, _ = beside(asked, other)
            if first is None or first > BIG:
                continue
            papers = legs_to(asked, first - 1), legs_to(other, first - 1)
            for frame in range(len(asked[0])):
                for beat in (first - 1, first, first + 1):
                    for mine in [papers[0]] + nudged(papers[0])[:4]:
                        for theirs in [papers[1]] + nudged(papers[1])[:4]:
                            good = is_unlike(asked, other, frame, beat, (mine, theirs))
                            both[good] += 1
                            self.agrees(("unlike", asked, other, frame, beat), (mine, theirs), good)
        self.assertGreater(min(both), 60)

    def test_other_kinds(self):
        claim = ("unlike", SEVEN, self.gone, 0, 26)
        self.yes(claim, ((), ()))
        for odd in (None, True, 0, [], "", {}, Odd(), (), ((),), ((), (), ()), [(), ()], ([], ()), ((), []), ((), None)):
            self.no(claim, odd)
        for odd in (claim[:4], claim + (1,), list(claim)):
            self.no(odd, ((), ()))
        for at in range(5):
            for odd in (None, "", [], {}, Odd(), (), False):
                self.no(put(claim, (at,), odd), ((), ()))


if __name__ == "__main__":
    unittest.main()
