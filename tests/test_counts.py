import copy
import random
import unittest

from doffyard.counts import counts
from doffyard.errors import NoFrame, NoMany, NoWait, NoYard
from doffyard.waits import longest
from tests.plain_tales import plain_longest
from tests.test_checker_legs import SEVEN
from tests.test_plain import NO_WAITS
from tests.test_spells import NO_FRAMES
from tests.yard_maker import ALWAYS, BIG, made, rising, some_yard

NO_COUNTS = (0, 7, -1, BIG, None, True, False, "1", b"1", "", (), (1,), [1], {}, set(), len)


def with_count(asked, frame, count):
    """The yard with so many hands in the place of its own."""
    hand = (frame, tuple(range(len(asked[0]))), 0, None)
    return asked[:4] + ((hand,) * count, asked[5])


class Counts(unittest.TestCase):
    def by_longest(self, asked, frame, wait, many, ask=longest):
        told = [ask(with_count(asked, frame, count)) for count in range(1, many + 1)]
        return tuple(one[0] == "none" or (one[0] == "waits" and one[1] <= wait) for one in told)

    def told(self, asked, frame, wait, many):
        truths = counts(asked, frame, wait, many)
        self.assertIsInstance(truths, tuple)
        self.assertTrue(all(truth is True or truth is False for truth in truths))
        self.assertEqual(len(truths), many)
        self.assertEqual(truths, self.by_longest(asked, frame, wait, many), (asked, frame, wait, many))
        return truths

    def test_worked(self):
        # four broken at once, three beats each
        asked = made([(0, 4, 3, 30, 0, ((1, 0), (1, 1), (1, 2), (1, 3)))], [], pieces=(3, 1))
        self.assertEqual(self.told(asked, 0, 12, 6), (True,) * 6)
        self.assertEqual(self.told(asked, 0, 11, 6), (False,) + (True,) * 5)
        self.assertEqual(self.told(asked, 0, 6, 6), (False,) + (True,) * 5)
        self.assertEqual(self.told(asked, 0, 5, 6), (False,) * 3 + (True,) * 3)
        self.assertEqual(self.told(asked, 0, 2, 6), (False,) * 6)
        self.assertEqual(self.told(asked, 0, 12, 1), (True,))
        self.assertEqual(self.told(asked, 0, 0, 2), (False,) * 2)

    def test_nothing_breaks(self):
        self.assertEqual(counts(made([(0, 4, 3, 30, 0, ())]), 0, 0, 6), (True,) * 6)

    def test_the_hands_of_the_yard_are_nothing_to_it(self):
        asked = made([(0, 1, 0, 5, 0, ((2, 0),))], [], pieces=(4, 1))
        for hands in ((), (ALWAYS,), ((0, (0,), 5, 9),) * 16):
            self.assertEqual(counts(asked[:4] + (hands, ()), 0, 4, 3), (True,) * 3)
            self.assertEqual(counts(asked[:4] + (hands, ()), 0, 3, 3), (False,) * 3)

    def test_the_frame_tells(self):
        frames = [(0, 1, 0, 5, 0, ()), (0, 1, 0, 5, 0, ())]
        asked = made(frames, [], [(1, 3, 0)], walks=((0, 5), (9, 0)), pieces=(2, 1))
        self.assertEqual(self.told(asked, 1, 2, 2), (True, True))
        self.assertEqual(self.told(asked, 0, 6, 2), (False, False))
        self.assertEqual(self.told(asked, 0, 7, 2), (True, True))

    def test_strays_stay(self):
        frame = (0, 2, 1, 7, 0, ((2, 0),))
        for spun in (9, 7 * 10 ** 20 + 2):
            asked = made([frame], [], [(0, spun, 1)], pieces=(3, 1))
            self.assertEqual(self.told(asked, 0, 3, 3), (False, True, True))
            self.assertEqual(counts(asked[:5] + ((),), 0, 3, 3), (True, True, True))

    def test_more_hands_may_make_breaks_wait_longer(self):
        source = random.Random(261)
        found = 0
        for _ in range(250):
            many = source.randint(2, 3)
            frames = []
            for _ in range(many):
                full, threads = source.randint(2, 6), source.randint(1, 3)
                rows = rising((source.randint(1, full), source.randrange(threads)) for _ in range(3))
                frames.append((source.randint(0, 1), threads, source.randrange(threads), full, source.randint(0, 2), rows))
            walks = tuple(tuple(0 if a == b else source.randint(0, 9) for b in range(many)) for a in range(many))
            asked = made(frames, [], [], source.choice(("near", "old", "sort")), walks,
                         (source.randint(1, 9), source.randint(1, 9)))
            waits = [longest(with_count(asked, 0, count)) for count in (1, 2, 3)]
            beats = [one[1] for one in waits if one[0] == "waits"]
            if len(beats) == 3 and max(beats[1:]) > beats[0]:
                found += 1
                truths = self.told(asked, 0, beats[0], 3)
                self.assertTrue(truths[0])
                self.assertIn(False, truths)
        self.assertGreater(found, 0)

    def test_some(self):
        source = random.Random(262)
        seen = set()
        for _ in range(60):
            asked = some_yard(source, far=source.choice((60, 10 ** 18)), longest=5, most_frames=2)
            frame = source.randrange(len(asked[0]))
            seen.update(self.told(asked, frame, source.choice((0, 5, 12, 30, 10 ** 39)), source.randint(1, 6)))
        self.assertEqual(seen, {True, False})

    def test_against_plain_walks(self):
        source = random.Random(263)
        for _ in range(40):
            asked = some_yard(source, far=40, longest=4, most_frames=2)
            frame, wait = source.randrange(len(asked[0])), source.randint(0, 25)
            if all(plain_longest(with_count(asked, frame, count), 400) for count in (1, 2, 3)):
                wanted = self.by_longest(asked, frame, wait, 3, lambda yard: plain_longest(yard, 400))
                self.assertEqual(counts(asked, frame, wait, 3), wanted)

    def test_refused_the_first_from_the_left(self):
        for many in (1, 6):
            self.assertEqual(len(counts(SEVEN, 0, 0, many)), many)
        for odd in NO_COUNTS:
            with self.assertRaises(NoMany):
                counts(SEVEN, 0, 5, odd)
            for wait in NO_WAITS:
                with self.assertRaises(NoWait):
                    counts(SEVEN, 0, wait, odd)
        for wait in NO_WAITS:
            with self.assertRaises(NoWait):
                counts(SEVEN, 0, wait, 3)
            for frame in NO_FRAMES:
                for many in (3, None):
                    with self.assertRaises(NoFrame):
                        counts(SEVEN, frame, wait, many)
        for frame in NO_FRAMES:
            with self.assertRaises(NoFrame):
                counts(SEVEN, frame, 5, 3)
            for odd in (None, (), 7, list(SEVEN), SEVEN[:5]):
                for rest in ((5, 3), (None, None)):
                    with self.assertRaises(NoYard):
                        counts(odd, frame, *rest)

    def test_what_is_handed_in_stays_and_the_same_is_told_again(self):
        kept = copy.deepcopy(SEVEN)
        self.assertEqual(counts(SEVEN, 0, 2, 6), counts(kept, 0, 2, 6))
        self.assertEqual(SEVEN, kept)


if __name__ == "__main__":
    unittest.main()
