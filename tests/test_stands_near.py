import copy
import random
import unittest

from doffyard.errors import NoMoment, NoYard
from doffyard.stands import stands
from doffyard.yards import is_yard
from tests.plain_walk import walked
from tests.yard_maker import BIG, some_yard


def yard(frames, hands, strays=(), rule="old", walks=None, pieces=(1, 1)):
    """A yard with no walks where none are told."""
    if walks is None:
        walks = ((0,) * len(frames),) * len(frames)
    return (tuple(frames), walks, pieces, rule, tuple(hands), tuple(strays))


ALWAYS = (0, (0,), 0, None)


class Worked(unittest.TestCase):
    """Small yards worked out by hand from the document."""

    def told(self, asked, first, rows):
        for moment, row in enumerate(rows, first):
            self.assertEqual(stands(asked, moment), row, moment)

    def test_one_frame_and_one_hand(self):
        asked = yard([(0, 1, 0, 3, 2, ((2, 0),))], [ALWAYS], pieces=(2, 5))
        idle = ((0, None, 0),)
        self.told(asked, 0, [
            (((0, 0, 0),), (), (None,), (0, 0)),
            (((1, 1, 0),), (), idle, (1, 0)),
            (((2, 2, 0),), ((0, 0, 2),), idle, (2, 0)),
            (((2, 2, 0),), ((0, 0, 2),), ((0, (0, 0), 1),), (2, 0)),
            (((2, 2, 0),), (), idle, (2, 0)),
            (((3, 0, 2),), (), idle, (3, 0)),
            (((3, 0, 1),), (), idle, (3, 0)),
            (((3, 0, 0),), (), idle, (3, 0)),
            (((4, 1, 0),), (), idle, (4, 0)),
        ])

    def test_pieces_and_lengths_go_by_the_sort(self):
        asked = yard([(1, 2, 1, 9, 0, ((1, 0),))], [ALWAYS], pieces=(1, 3))
        self.told(asked, 1, [
            (((1, 1, 0),), ((0, 0, 1),), ((0, None, 0),), (0, 2)),
            (((2, 2, 0),), ((0, 0, 1),), ((0, (0, 0), 2),), (0, 3)),
            (((3, 3, 0),), ((0, 0, 1),), ((0, (0, 0), 1),), (0, 4)),
            (((4, 4, 0),), (), ((0, None, 0),), (0, 5)),
            (((5, 5, 0),), (), ((0, None, 0),), (0, 7)),
        ])

    def test_a_row_where_the_bobbins_are_full_and_no_doffing(self):
        asked = yard([(0, 1, 0, 1, 0, ((1, 0),))], [ALWAYS])
        self.told(asked, 1, [
            (((1, 0, 0),), ((0, 0, 1),), ((0, None, 0),), (1, 0)),
            (((1, 0, 0),), (), ((0, None, 0),), (1, 0)),
            (((2, 0, 0),), ((0, 0, 3),), ((0, None, 0),), (2, 0)),
        ])

    def test_doffing_goes_on_while_threads_are_broken(self):
        asked = yard([(0, 1, 0, 1, 3, ((1, 0),))], [])
        self.told(asked, 1, [
            (((1, 0, 3),), ((0, 0, 1),), (), (1, 0)),
            (((1, 0, 2),), ((0, 0, 1),), (), (1, 0)),
            (((1, 0, 1),), ((0, 0, 1),), (), (1, 0)),
            (((1, 0, 0),), ((0, 0, 1),), (), (1, 0)),
            (((1, 0, 0),), ((0, 0, 1),), (), (1, 0)),
        ])

    def test_no_hands_and_most_of_more(self):
        asked = yard([(0, 3, 1, 4, 0, ((1, 2), (2, 0)))], [])
        self.told(asked, 1, [
            (((1, 1, 0),), ((0, 2, 1),), (), (3, 0)),
            (((2, 2, 0),), ((0, 2, 1), (0, 0, 2)), (), (5, 0)),
            (((2, 2, 0),), ((0, 2, 1), (0, 0, 2)), (), (5, 0)),
        ])

    def test_a_hand_walks_and_then_stands_at_the_threads_frame(self):
        frames = [(0, 1, 0, 30, 0, ()), (1, 1, 0, 30, 0, ((1, 0),))]
        asked = yard(frames, [(0, (0, 1), 0, None)], walks=((0, 2), (0, 0)), pieces=(9, 2))
        hands = [stands(asked, moment)[2][0] for moment in range(7)]
        job = (1, 0)
        self.assertEqual(hands, [None, (0, None, 0), (0, job, 3), (0, job, 2), (0, job, 1), (1, None, 0),
                                 (1, None, 0)])

    def test_a_thread_let_go_is_taken_anew_by_another(self):
        hands = [(0, (0,), 0, 3), (0, (0,), 2, None)]
        asked = yard([(0, 1, 0, 30, 0, ((1, 0),))], hands, pieces=(4, 1))
        told = [stands(asked, moment)[2] for moment in range(9)]
        job = (0, 0)
        self.assertEqual(told, [
            (None, None), ((0, None, 0), None), ((0, job, 3), None), ((0, job, 2), (0, None, 0)),
            (None, (0, job, 3)), (None, (0, job, 2)), (None, (0, job, 1)), (None, (0, None, 0)),
            (None, (0, None, 0))])
        self.assertEqual(stands(asked, 6)[1], ((0, 0, 1),))
        self.assertEqual(stands(asked, 7)[1], ())

    def test_a_hand_that_goes_just_when_it_is_done(self):
        asked = yard([(0, 1, 0, 30, 0, ((1, 0),))], [(0, (0,), 0, 3)], pieces=(2, 1))
        self.assertEqual(stands(asked, 3), (((1, 1, 0),), (), ((0, None, 0),), (1, 0)))
        self.assertEqual(stands(asked, 4), (((2, 2, 0),), (), (None,), (2, 0)))
        short = yard([(0, 1, 0, 30, 0, ((1, 0),))], [(0, (0,), 0, 2)], pieces=(2, 1))
        self.assertEqual(stands(short, 2), (((1, 1, 0),), ((0, 0, 1),), ((0, (0, 0), 1),), (1, 0)))
        self.assertEqual(stands(short, 3), (((1, 1, 0),), ((0, 0, 1),), (None,), (1, 0)))

    def test_what_a_hand_does_not_mind_it_leaves(self):
        frames = [(0, 1, 0, 30, 0, ((1, 0),)), (0, 1, 0, 30, 0, ((2, 0),))]
        asked = yard(frames, [(0, (1,), 0, None)])
        self.assertEqual(stands(asked, 3), (((1, 1, 0), (2, 2, 0)), ((0, 0, 1),), ((1, None, 0),), (3, 0)))

    def jobs(self, rule, walks=((0, 5, 1), (0, 0, 0), (0, 0, 0))):
        """What is taken in beat 4 where threads of frames 1, 2 and 0 broke in this turn."""
        frames = [(0, 1, 0, 30, 0, ((3, 0),)), (1, 2, 1, 30, 0, ((1, 1),)), (0, 2, 1, 30, 0, ((2, 0), (2, 1)))]
        asked = yard(frames, [(0, (0, 1, 2), 3, None)] * 4, rule=rule, walks=walks)
        return tuple(hand[1] or hand[0] for hand in stands(asked, 4)[2]), stands(asked, 3)[1]

    def test_the_three_rules(self):
        broken = ((1, 1, 1), (2, 0, 2), (2, 1, 2), (0, 0, 3))
        # pieced at once where there is no walk, so the frame of the hand is told there
        self.assertEqual(self.jobs("near"), ((0, (2, 0), (2, 1), (1, 1)), broken))
        self.assertEqual(self.jobs("old"), (((1, 1), (2, 0), (2, 1), 0), broken))
        self.assertEqual(self.jobs("sort"), (((2, 0), (2, 1), 0, (1, 1)), broken))

    def test_near_goes_by_the_walk_from_the_hand(self):
        walks = ((0, 1, 9), (9, 0, 9), (9, 9, 0))
        self.assertEqual(self.jobs("near", walks)[0], (0, (1, 1), (2, 0), (2, 1)))

    def test_breaks_of_one_beat_go_by_frame_and_thread(self):
        frames = [(0, 3, 2, 30, 0, ((2, 1), (2, 2))), (0, 2, 1, 30, 0, ((2, 0),))]
        asked = yard(frames, [], strays=((0, 2, 0), (1, 2, 1)))
        self.assertEqual(stands(asked, 2)[1], ((0, 0, 2), (0, 1, 2), (0, 2, 2), (1, 0, 2), (1, 1, 2)))

    def test_a_stray_on_a_thread_that_a_row_has_breaks_it_once(self):
        frames = [(0, 2, 1, 5, 0, ((2, 0),))]
        both = yard(frames, [ALWAYS], strays=((0, 2, 0),), pieces=(2, 1))
        alone = yard(frames, [ALWAYS], pieces=(2, 1))
        self.assertEqual(stands(both, 2)[1], ((0, 0, 2),))
        for moment in range(20):
            self.assertEqual(stands(both, moment), stands(alone, moment))

    def test_a_stray_on_a_broken_thread_is_lost(self):
        frames = [(0, 2, 1, 9, 0, ((1, 0),))]
        hands = [(0, (0,), 0, None)]
        lost = yard(frames, hands, strays=((0, 2, 0), (0, 3, 0), (0, 4, 0)), pieces=(3, 1))
        alone = yard(frames, hands, pieces=(3, 1))
        self.assertEqual(stands(lost, 3)[1], ((0, 0, 1),))
        for moment in range(40):
            self.assertEqual(stands(lost, moment), stands(alone, moment))
        met = yard(frames, hands, strays=((0, 5, 0),), pieces=(3, 1))
        self.assertEqual(stands(met, 5)[1], ((0, 0, 5),))

    def test_spun_counts_the_frames_own_spinning(self):
        asked = yard([(0, 1, 0, 2, 3, ())], [], strays=((0, 3, 0),))
        self.assertEqual(stands(asked, 5), (((2, 0, 0),), (), (), (2, 0)))
        self.assertEqual(stands(asked, 6), (((3, 1, 0),), ((0, 0, 6),), (), (3, 0)))


class Walked(unittest.TestCase):
    """Each of the first beats against the plain walk."""

    def against(self, asked, moments):
        self.assertTrue(is_yard(asked), asked)
        for moment, row in enumerate(walked(asked, moments)):
            self.assertEqual(stands(asked, moment), row, (asked, moment))

    def test_many_yards(self):
        source = random.Random(6)
        for _ in range(120):
            self.against(some_yard(source), 110)

    def test_many_hands(self):
        source = random.Random(7)
        for _ in range(20):
            self.against(some_yard(source, far=60, most_hands=16), 90)

    def test_hands_beside_each_other_that_mind_parts(self):
        source = random.Random(8)
        frame = (0, 3, 2, 7, 1, ((1, 0), (2, 1), (2, 2), (5, 0)))
        other = (1, 2, 0, 5, 0, ((1, 1), (4, 0)))
        for rule in ("near", "old", "sort"):
            for _ in range(6):
                hands = [(source.randrange(4), source.choice(((0,), (1, 2), (3,), (0, 3), (0, 1, 2, 3))),
                          source.randrange(4), source.choice((None, 9, 31))) for _ in range(3)]
                walks = tuple(tuple(0 if a == b else (a + 2 * b) for b in range(4)) for a in range(4))
                walks = tuple(tuple(min(walk, 9) for walk in row) for row in walks)
                self.against(yard([frame, other, frame, other], hands, rule=rule, walks=walks, pieces=(2, 3)), 80)

    def test_one_comes_as_another_goes(self):
        frame = (0, 2, 0, 4, 1, ((1, 0), (3, 1)))
        for edge in range(1, 15):
            hands = [(0, (0,), 0, edge), (0, (0,), edge, None), (0, (0,), edge + 1, edge + 3)]
            self.against(yard([frame], hands, pieces=(3, 1)), 40)


class Asked(unittest.TestCase):
    """What is refused, what stays as it was, and what is told again."""

    some = yard([(0, 1, 0, 3, 2, ((2, 0),))], [ALWAYS])

    def test_no_yard_ahead_of_no_moment(self):
        for odd in (None, (), [], 3, "x", list(self.some), self.some[:5], (True,) * 6):
            for moment in (0, 5, -1, None, "x", BIG + 1):
                with self.assertRaises(NoYard):
                    stands(odd, moment)

    def test_no_moment(self):
        for odd in (-1, BIG + 1, BIG * 10, None, True, False, "0", b"0", "", (), (0,), [0], {}, set(), len):
            with self.assertRaises(NoMoment):
                stands(self.some, odd)

    def test_the_first_moment_and_the_last(self):
        self.assertEqual(stands(self.some, 0)[0], ((0, 0, 0),))
        self.assertEqual(len(stands(self.some, BIG)), 4)

    def test_what_is_told_is_of_tuples(self):
        def tuples_all(thing):
            if isinstance(thing, tuple):
                return all(tuples_all(part) for part in thing)
            return thing is None or (isinstance(thing, int) and not isinstance(thing, bool))
        source = random.Random(9)
        for _ in range(20):
            asked = some_yard(source)
            for moment in (0, 1, 50, BIG):
                self.assertTrue(tuples_all(stands(asked, moment)))

    def test_what_is_handed_in_stays_and_the_answer_is_the_same(self):
        source = random.Random(10)
        for _ in range(20):
            asked = some_yard(source, far=BIG, longest=6, most_frames=2)
            kept = copy.deepcopy(asked)
            first = [stands(asked, moment) for moment in (7, BIG, 0, 30)]
            again = [stands(kept, moment) for moment in (7, BIG, 0, 30)]
            self.assertEqual(first, again)
            self.assertEqual(asked, kept)


if __name__ == "__main__":
    unittest.main()
