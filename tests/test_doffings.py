import copy
import itertools
import random
import unittest

from doffyard.doffings import doffings, least_doffers, with_doffers
from doffyard.errors import NoDoffs, NoMany, NoMoment, NoYard
from tests.plain_tales import plain_doffings
from tests.test_calls import NO_MANY
from tests.test_yards import Odd, part, paths, put
from tests.yard_maker import ALWAYS, BIG, lively_yard, made, some_yard

NO_BEATS = (0, -1, BIG + 1, None, True, False, "1", b"1", "", (), (1,), [1], {}, set(), len)
THREE = made([(0, 1, 0, 3, 2, ())])


def some_doffs(source, many, high=12, longest=6):
    told = set()
    while len(told) < many:
        start = source.randint(1, high)
        told.add((start, start + source.randint(0, longest), source.randrange(4)))
    return tuple(sorted(told))


def going(doffs, beat):
    return [number for number, (start, end, _) in enumerate(doffs) if start <= beat <= end]


class Begun(unittest.TestCase):
    def told(self, asked, first, last):
        rows = doffings(asked, first, last)
        self.assertIsInstance(rows, list)
        self.assertTrue(all(isinstance(row, tuple) for row in rows))
        self.assertEqual(rows, plain_doffings(asked, first, last), (asked, first, last))
        return rows

    def test_worked(self):
        # spun in 1 to 3, doffed in 4 and 5, and so on each five beats
        self.assertEqual(self.told(THREE, 1, 14), [(4, 5, 0), (9, 10, 0), (14, 15, 0)])
        self.assertEqual(self.told(THREE, 4, 4), [(4, 5, 0)])
        self.assertEqual(self.told(THREE, 5, 8), [])
        self.assertEqual(self.told(THREE, 5, 9), [(9, 10, 0)])
        self.assertEqual(self.told(THREE, 1, 3), [])
        self.assertEqual(len(self.told(THREE, 1, 401)), 80)

    def test_none_where_doff_is_0(self):
        asked = made([(0, 1, 0, 3, 0, ()), (0, 1, 0, 3, 9, ()), (0, 1, 0, 3, 0, ())])
        self.assertEqual(self.told(asked, 1, 20), [(4, 12, 1), (16, 24, 1)])
        self.assertEqual(self.told(made([(0, 1, 0, 1, 0, ())]), 1, 400), [])

    def test_at_once_by_frames(self):
        asked = made([(0, 1, 0, 3, 2, ()), (0, 1, 0, 3, 1, ()), (0, 1, 0, 3, 1, ())])
        self.assertEqual(self.told(asked, 1, 8), [(4, 4, 1), (4, 4, 2), (4, 5, 0), (8, 8, 1), (8, 8, 2)])

    def test_full_as_a_thread_breaks(self):
        self.assertEqual(self.told(made([(0, 1, 0, 3, 2, ((3, 0),))]), 1, 90), [(4, 5, 0)])

    def test_at_big(self):
        self.assertEqual(BIG % 5, 0)
        self.assertEqual(self.told(THREE, BIG - 400, BIG)[-1], (BIG - 1, BIG, 0))
        long = made([(0, 1, 0, 1, 9, ())])
        self.assertEqual(doffings(long, BIG - 8, BIG), [(BIG - 8, BIG, 0)])
        # it begins in BIG itself
        for full in range(1, 31):
            asked = made([(0, 1, 0, full, 9, ())])
            rows = self.told(asked, BIG, BIG)
            self.assertEqual(rows, [(BIG, BIG + 8, 0)] if (BIG - 1) % (full + 9) == full else [])

    def test_near(self):
        source = random.Random(221)
        found = 0
        for turn in range(80):
            asked = some_yard(source, far=60, longest=source.choice((5, 30)), most_hands=source.choice((1, 3, 16)))
            if turn % 3 == 0:
                asked = lively_yard(source, 60, most_frames=4)
            first = source.choice((1, source.randint(1, 90)))
            found += len(self.told(asked, first, first + source.choice((0, 1, source.randint(0, 90)))))
        self.assertGreater(found, 100)

    def test_far(self):
        source = random.Random(222)
        found = 0
        for turn in range(60):
            far = source.choice((10 ** 4, 10 ** 18, BIG))
            asked = lively_yard(source, far) if turn % 2 else some_yard(source, far, 5, 2)
            for first in (source.randint(1, far), source.randint(1, BIG), BIG - source.randint(0, 40)):
                found += len(self.told(asked, first, min(BIG, first + source.randint(0, 50))))
        self.assertGreater(found, 100)

    def test_stretches_that_are_none(self):
        for first, last in ((5, 4), (2, 1), (1, 402), (BIG - 401, BIG), (BIG, BIG - 1), (7, 10 ** 20)):
            with self.assertRaises(NoMoment):
                doffings(THREE, first, last)
        for first, last in ((5, 5), (1, 401), (BIG - 400, BIG), (BIG, BIG)):
            doffings(THREE, first, last)
        for odd in NO_BEATS:
            for pair in ((odd, 5), (5, odd), (odd, odd)):
                with self.assertRaises(NoMoment):
                    doffings(THREE, *pair)
        with self.assertRaises(NoMoment):
            doffings(THREE, BIG, BIG + 1)

    def test_no_yard_ahead_of_all(self):
        for odd in (None, (), 7, list(THREE), THREE[:5]):
            for pair in ((1, 5), (None, None), (5, 1)):
                with self.assertRaises(NoYard):
                    doffings(odd, *pair)

    def test_spoilt_and_told_again(self):
        kept = copy.deepcopy(THREE)
        rows = doffings(THREE, 1, 20)
        wanted = list(rows)
        rows.append(None)
        rows[0] = 7
        self.assertEqual(doffings(THREE, 1, 20), wanted)
        self.assertEqual(THREE, kept)


class Doffers(unittest.TestCase):
    def is_plan(self, doffs, plan, many):
        self.assertIsInstance(plan, tuple)
        self.assertEqual(len(plan), len(doffs))
        for doffer in plan:
            self.assertIs(type(doffer), int)
            self.assertTrue(0 <= doffer < many, (doffs, plan))
        for one, other in itertools.combinations(range(len(doffs)), 2):
            if plan[one] == plan[other]:
                self.assertTrue(doffs[one][1] < doffs[other][0] or doffs[other][1] < doffs[one][0], (doffs, plan))

    def held(self, doffs):
        """What is told by its own words; return HOW."""
        told = least_doffers(doffs)
        self.assertIsInstance(told, tuple)
        how, plan, beat = told
        self.is_plan(doffs, plan, how)
        self.assertIs(type(beat), int)
        self.assertEqual(len(going(doffs, beat)), how)
        for many in (0, 1, how - 1, how, how + 1, 10 ** 39):
            told = with_doffers(doffs, many)
            self.assertIsInstance(told, tuple)
            if many >= how:
                self.assertEqual((len(told), told[0]), (2, "plan"))
                self.is_plan(doffs, told[1], many)
            else:
                beats = sorted({start for start, _, _ in doffs if len(going(doffs, start)) > many})
                self.assertEqual(told, ("clash", beats[0], tuple(going(doffs, beats[0]))))
        return how

    def test_none(self):
        self.assertEqual(least_doffers(()), (0, (), None))
        for many in (0, 1, 7, BIG):
            self.assertEqual(with_doffers((), many), ("plan", ()))

    def test_worked(self):
        self.assertEqual(least_doffers(((1, 5, 0),)), (1, (0,), 1))
        self.assertEqual(with_doffers(((1, 5, 0),), 0), ("clash", 1, (0,)))
        # one behind the other is no clash, to touch in one beat is
        self.assertEqual(self.held(((1, 5, 0), (6, 9, 0))), 1)
        self.assertEqual(self.held(((1, 5, 0), (5, 9, 0))), 2)
        self.assertEqual(with_doffers(((1, 5, 0), (5, 9, 0)), 1), ("clash", 5, (0, 1)))
        # within one another
        self.assertEqual(self.held(((1, 20, 0), (2, 19, 0), (3, 3, 0), (4, 4, 1), (5, 5, 2))), 3)
        # the same beats of four frames
        self.assertEqual(self.held(tuple((7, 9, frame) for frame in range(4))), 4)
        self.assertEqual(with_doffers(tuple((7, 9, frame) for frame in range(4)), 3), ("clash", 7, (0, 1, 2, 3)))
        # the first clash, not the greatest
        doffs = ((1, 3, 0), (2, 2, 1), (8, 9, 0), (8, 9, 1), (8, 9, 2))
        self.assertEqual(with_doffers(doffs, 1), ("clash", 2, (0, 1)))
        self.assertEqual(with_doffers(doffs, 2), ("clash", 8, (2, 3, 4)))
        self.assertEqual(self.held(doffs), 3)

    def test_first_beat_by_looking_at_all(self):
        source = random.Random(223)
        for _ in range(200):
            doffs = some_doffs(source, source.randint(1, 8))
            for many in range(4):
                beats = [beat for beat in range(1, 20) if len(going(doffs, beat)) > many]
                told = with_doffers(doffs, many)
                if beats:
                    self.assertEqual(told, ("clash", beats[0], tuple(going(doffs, beats[0]))))
                else:
                    self.assertEqual(told[0], "plan")

    def test_against_all_plans(self):
        source = random.Random(224)
        hows = set()
        for _ in range(150):
            doffs = some_doffs(source, source.randint(1, 5), source.choice((4, 12)))
            how = self.held(doffs)
            hows.add(how)
            for plan in itertools.product(range(how - 1), repeat=len(doffs)):
                at_once = [(one, other) for one, other in itertools.combinations(range(len(doffs)), 2)
                           if plan[one] == plan[other] and doffs[other][0] <= doffs[one][1]]
                self.assertTrue(at_once, (doffs, plan))
        self.assertLessEqual({1, 2, 3, 4}, hows)

    def test_thirty_and_far(self):
        source = random.Random(225)
        for _ in range(40):
            self.held(some_doffs(source, 30, source.choice((20, 100, BIG)), source.choice((1, 9, 40))))
        self.held(tuple((BIG, BIG + long, frame) for long in range(7) for frame in range(4)))
        self.assertEqual(self.held(((1, BIG + 9, 0), (BIG, BIG + 9, 3))), 2)

    def test_of_a_yard(self):
        source = random.Random(226)
        found = 0
        for _ in range(30):
            asked = some_yard(source, 10 ** 9, 9)
            first = source.choice((1, 10 ** 9, BIG - 40))
            doffs = tuple(doffings(asked, first, first + 40))
            if doffs and len(doffs) <= 30:
                found += self.held(doffs) > 1
        self.assertGreater(found, 4)


class Refused(unittest.TestCase):
    good = ((1, 5, 0), (1, 5, 3), (2, 2, 1), (BIG, BIG + 9, 2))

    def no(self, thing):
        for many in (2, None, -1):
            with self.assertRaises(NoDoffs):
                with_doffers(thing, many)
        with self.assertRaises(NoDoffs):
            least_doffers(thing)

    def yes(self, thing):
        least_doffers(thing)
        with_doffers(thing, 2)

    def test_things_of_any_kind(self):
        self.yes(self.good)
        for odd in (None, True, 0, 7, "", "abc", b"", [], {}, set(), Odd(), len, list(self.good), (None,), (Odd(),), ((),),
                    (1, 5, 0), doffings(THREE, 1, 20), [()], frozenset()):
            self.no(odd)
        for path in paths(self.good):
            for odd in (None, True, False, "1", b"", [], {}, set(), Odd(), (), -1, (1,)):
                if path or not isinstance(odd, tuple) or odd:
                    self.no(put(self.good, path, odd))
            old = part(self.good, path)
            if isinstance(old, tuple):
                self.no(put(self.good, path, list(old)))

    def test_bounds(self):
        for doffing in ((1, 1, 0), (BIG, BIG, 0), (1, BIG + 9, 0), (5, 5, 3), (BIG, BIG + 9, 3)):
            self.yes((doffing,))
        for doffing in ((0, 1, 0), (BIG + 1, BIG + 1, 0), (5, 4, 0), (1, BIG + 10, 0), (1, 1, 4), (1, 1, -1), (1, 1),
                        (1, 1, 0, 0), (-1, 1, 0), (BIG, BIG + 10, 0)):
            self.no((doffing,))
            self.no((doffing, doffing))
        rising = tuple((at, at, 0) for at in range(1, 32))
        self.yes(rising[:30])
        self.no(rising)

    def test_not_rising(self):
        for pair in (((1, 5, 0), (1, 5, 0)), ((1, 5, 1), (1, 5, 0)), ((1, 6, 0), (1, 5, 0)), ((2, 6, 0), (1, 9, 0))):
            self.no(pair)
        self.yes(((1, 5, 0), (1, 5, 1), (1, 6, 0), (2, 2, 0)))

    def test_no_many(self):
        for doffs in (self.good, ()):
            for odd in NO_MANY:
                with self.assertRaises(NoMany):
                    with_doffers(doffs, odd)

    def test_what_is_handed_in_stays_and_the_same_is_told_again(self):
        kept = copy.deepcopy(self.good)
        told = [least_doffers(self.good), with_doffers(self.good, 1), with_doffers(self.good, 4)]
        self.assertEqual([least_doffers(kept), with_doffers(kept, 1), with_doffers(kept, 4)], told)
        self.assertEqual(self.good, kept)


if __name__ == "__main__":
    unittest.main()
