import copy
import itertools
import random
import unittest

from doffyard.calls import least_hands, with_hands
from doffyard.errors import NoCalls, NoMany
from tests.yard_maker import BIG

NO_MANY = (-1, None, True, False, "1", b"1", "", (), (1,), [1], {}, set(), len)


def fewest_by_trying(calls):
    """The fewest hands of any plan there is."""
    plans = itertools.product(*[range(beat, last + 1) for beat, last in calls])
    return min(max((plan.count(beat) for beat in plan), default=0) for plan in plans)


class Held(unittest.TestCase):
    def is_plan(self, calls, plan, many):
        self.assertIsInstance(plan, tuple)
        self.assertEqual(len(plan), len(calls))
        for beat, (first, last) in zip(plan, calls):
            self.assertIs(type(beat), int)
            self.assertTrue(first <= beat <= last, (calls, plan))
            self.assertLessEqual(plan.count(beat), many, (calls, plan))

    def is_crowded(self, calls, first, last, many):
        self.assertTrue(1 <= first <= last <= BIG)
        within = [call for call in calls if first <= call[0] and call[1] <= last]
        self.assertGreater(len(within), many * (last - first + 1), (calls, first, last))

    def held(self, calls):
        """The told plan and stretch by their own words: the one shows that so many are enough, the other that no fewer."""
        told = least_hands(calls)
        self.assertIsInstance(told, tuple)
        how, plan, stretch = told
        self.is_plan(calls, plan, how)
        self.assertIsInstance(stretch, tuple)
        self.is_crowded(calls, stretch[0], stretch[1], how - 1)
        for many in (0, 1, how - 1, how, how + 1, 10 ** 39):
            told = with_hands(calls, many)
            if many >= how:
                self.assertEqual(told[0], "plan")
                self.assertEqual(len(told), 2)
                self.is_plan(calls, told[1], many)
            else:
                self.assertEqual(told[0], "short")
                self.assertEqual(len(told), 3)
                self.is_crowded(calls, told[1], told[2], many)
        return how


class Calls(Held):
    def test_no_calls(self):
        self.assertEqual(least_hands(()), (0, (), None))
        for many in (0, 1, 7, BIG):
            self.assertEqual(with_hands((), many), ("plan", ()))

    def test_worked(self):
        for calls, how in ((((1, 1),), 1), (((5, 9),), 1), (((1, 1), (1, 1)), 2), (((1, 2), (1, 2)), 1),
                           (((1, 2), (1, 2), (1, 2)), 2), (((1, 3), (2, 2), (2, 2)), 2), (((1, 1), (1, 2), (2, 2)), 2),
                           (((1, 2), (2, 3), (2, 3), (3, 3)), 2), (((1, 4), (2, 3), (2, 3), (3, 3)), 2),
                           (((1, 1), (2, 2), (3, 3)), 1), (((4, 4),) * 12, 12), (((4, 15),) * 12, 1),
                           (((4, 14),) * 12, 2), (((1, BIG),) * 12, 1)):
            self.assertEqual(self.held(calls), how, calls)

    def test_one_that_is_due_first_goes_first(self):
        self.assertEqual(least_hands(((1, 3), (1, 3), (2, 2)))[0], 1)
        self.assertEqual(least_hands(((1, 5), (2, 2), (2, 3), (3, 4), (4, 5)))[0], 1)

    def test_far_and_to_big(self):
        for calls, how in ((((BIG, BIG),) * 3, 3), (((1, 1), (BIG, BIG)), 1), (((BIG - 1, BIG),) * 5, 3),
                           (((1, BIG), (10 ** 20, 10 ** 20), (10 ** 20, 10 ** 20)), 2),
                           (((1, BIG), (10 ** 20, 10 ** 20), (10 ** 20, 10 ** 20 + 1)), 1)):
            self.assertEqual(self.held(calls), how, calls)

    def test_against_trying_all_plans(self):
        source = random.Random(71)
        for _ in range(250):
            far = source.choice((0, 0, 10 ** 18, BIG - 20))
            calls = []
            for _ in range(source.randint(1, 6)):
                beat = far + source.randint(1, 6)
                calls.append((beat, beat + source.choice((0, 0, 1, 2, 3))))
            calls = tuple(sorted(calls))
            self.assertEqual(self.held(calls), fewest_by_trying(calls), calls)

    def test_crowds(self):
        source = random.Random(72)
        for _ in range(200):
            span = source.choice((3, 8, 40, BIG - 1))
            calls = []
            for _ in range(12):
                beat = source.randint(1, span)
                calls.append((beat, source.randint(beat, min(BIG, beat + source.choice((0, 2, span))))))
            self.held(tuple(sorted(calls)))

    def test_no_hands_at_all(self):
        self.assertEqual(with_hands(((3, 3),), 0), ("short", 3, 3))

    def test_the_same_each_time_and_nothing_changed(self):
        calls = ((1, 4), (2, 3), (2, 3), (3, 3))
        kept = copy.deepcopy(calls)
        for ask in (lambda: least_hands(calls), lambda: with_hands(calls, 1), lambda: with_hands(calls, 2)):
            self.assertEqual(ask(), ask())
        self.assertEqual(calls, kept)


class Refused(unittest.TestCase):
    def test_no_calls(self):
        bad = [None, True, 0, 3, "", "x", b"", [], {}, set(), len, [(1, 1)], ((1, 1), [2, 2]), ((1,),), ((1, 2, 3),),
               ((0, 1),), ((-1, 1),), ((2, 1),), ((1, BIG + 1),), ((BIG + 1, BIG + 1),), ((True, 1),), ((1, True),),
               ((1, None),), (("1", 2),), ((1, "2"),), (1, 2), ((2, 2), (1, 1)), ((1, 2), (1, 1)), (((1,), 2),),
               ((1, 1),) * 13, ((1, 1), None), ([1, 1],), ({},), (set(),)]
        for calls in bad:
            with self.assertRaises(NoCalls, msg=calls):
                least_hands(calls)
            for many in (1, None, -1):
                with self.assertRaises(NoCalls, msg=calls):
                    with_hands(calls, many)

    def test_the_bounds(self):
        for calls in ((), ((1, 1),) * 12, ((1, BIG),), ((BIG, BIG),), ((1, 1), (1, 1)), ((1, 2), (2, 2))):
            least_hands(calls)

    def test_no_many(self):
        for calls in ((), ((1, 1), (1, 1))):
            for odd in NO_MANY:
                with self.assertRaises(NoMany):
                    with_hands(calls, odd)


if __name__ == "__main__":
    unittest.main()
