import copy
import random
import unittest

from doffyard.errors import NoFrame, NoMoment, NoYard
from doffyard.spells import spells
from doffyard.stands import stands
from tests.plain_tales import plain_spells, stretch
from tests.test_checker_legs import SEVEN
from tests.test_doffings import NO_BEATS
from tests.yard_maker import ALWAYS, BIG, lively_yard, made, some_yard

NO_FRAMES = (-1, 1, 4, None, True, False, "0", b"0", "", (), (0,), [0], {}, set(), len)


class Spells(unittest.TestCase):
    def told(self, asked, frame, first, last):
        rows = spells(asked, frame, first, last)
        self.assertIsInstance(rows, list)
        self.assertTrue(all(isinstance(row, tuple) for row in rows))
        self.assertEqual(rows, plain_spells(asked, frame, first, last), (asked, frame, first, last))
        return rows

    def test_worked(self):
        rows = [(1, 2, "spins"), (3, 4, "stands"), (5, 5, "spins"), (6, 7, "doffed"), (8, 9, "spins")]
        self.assertEqual(self.told(SEVEN, 0, 1, 9), rows)
        # cut off at both ends
        self.assertEqual(self.told(SEVEN, 0, 2, 6), [(2, 2, "spins"), (3, 4, "stands"), (5, 5, "spins"), (6, 6, "doffed")])
        self.assertEqual(self.told(SEVEN, 0, 4, 4), [(4, 4, "stands")])

    def test_on_and_on(self):
        spins = made([(0, 1, 0, 7, 0, ())])
        for first in (1, 10 ** 20, BIG - 400):
            self.assertEqual(self.told(spins, 0, first, first + 400), [(first, first + 400, "spins")])
            self.assertEqual(self.told(spins, 0, first, first), [(first, first, "spins")])
        stopped = made([(0, 1, 0, 7, 0, ((3, 0),))])
        self.assertEqual(self.told(stopped, 0, 1, 401), [(1, 3, "spins"), (4, 401, "stands")])
        self.assertEqual(self.told(stopped, 0, BIG - 9, BIG), [(BIG - 9, BIG, "stands")])

    def test_what_breaks_without_standing_parts_no_spell(self):
        asked = made([(0, 3, 2, 4, 0, ((1, 0), (2, 1), (4, 2)))], [ALWAYS], pieces=(1, 1))
        self.assertEqual(self.told(asked, 0, 1, 60)[0], (1, 60, "spins"))

    def test_near(self):
        source = random.Random(241)
        words = set()
        for turn in range(80):
            asked = some_yard(source, far=60, longest=source.choice((5, 30)), most_hands=source.choice((1, 3, 16)))
            if turn % 3 == 0:
                asked = lively_yard(source, 60, most_frames=4)
            first = source.choice((1, source.randint(1, 90)))
            for frame in range(len(asked[0])):
                rows = self.told(asked, frame, first, first + source.choice((0, 1, source.randint(0, 90))))
                words.update(word for _, _, word in rows)
        self.assertEqual(words, {"spins", "stands", "doffed"})

    def test_far(self):
        source = random.Random(242)
        for turn in range(60):
            far = source.choice((10 ** 4, 10 ** 18, BIG))
            asked = lively_yard(source, far) if turn % 2 else some_yard(source, far, 5, 2)
            edges = [edge for hand in asked[4] for edge in hand[2:] if edge is not None and 20 < edge < BIG - 30]
            for first in [source.randint(1, far), source.randint(1, BIG), BIG] + [edge - 15 for edge in edges[:3]]:
                frame = source.randrange(len(asked[0]))
                self.told(asked, frame, first, min(BIG, first + source.choice((0, 30, 50))))

    def test_lengths_are_what_spinning_spells_bring(self):
        source = random.Random(243)
        for _ in range(30):
            asked = some_yard(source, far=60, longest=9)
            first = source.choice((1, 10 ** 12))
            rows = stretch(asked, first, first + 99)
            lengths = [0, 0]
            for frame, (sort, threads, *_) in enumerate(asked[0]):
                for start, end, word in spells(asked, frame, first, first + 99):
                    if word == "spins":
                        for row in rows[start - first:end - first + 1]:
                            lengths[sort] += threads - len([torn for torn in row[1] if torn[0] == frame])
            low, high = stands(asked, first - 1)[3], stands(asked, first + 99)[3]
            self.assertEqual(lengths, [new - old for old, new in zip(low, high)], asked)

    def test_refused(self):
        for first, last in ((5, 4), (2, 1), (1, 402), (BIG - 401, BIG), (BIG, BIG - 1), (7, 10 ** 20), (BIG, BIG + 1)):
            with self.assertRaises(NoMoment):
                spells(SEVEN, 0, first, last)
        for first, last in ((5, 5), (1, 401), (BIG - 400, BIG), (BIG, BIG)):
            spells(SEVEN, 0, first, last)
        for odd in NO_BEATS:
            for pair in ((odd, 5), (5, odd), (odd, odd)):
                with self.assertRaises(NoMoment):
                    spells(SEVEN, 0, *pair)
                for frame in NO_FRAMES:
                    with self.assertRaises(NoFrame):
                        spells(SEVEN, frame, *pair)
        for odd in (None, (), 7, list(SEVEN), SEVEN[:5]):
            for parts in ((0, 1, 5), (9, 1, 5), (None, None, None), (0, 5, 1)):
                with self.assertRaises(NoYard):
                    spells(odd, *parts)

    def test_spoilt_and_told_again(self):
        kept = copy.deepcopy(SEVEN)
        rows = spells(SEVEN, 0, 1, 20)
        wanted = list(rows)
        rows.pop()
        rows[0] = None
        self.assertEqual(spells(SEVEN, 0, 1, 20), wanted)
        self.assertEqual(SEVEN, kept)


if __name__ == "__main__":
    unittest.main()
