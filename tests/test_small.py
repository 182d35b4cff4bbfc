import copy
import random
import unittest

from doffyard.errors import NoSmall, NoStory
from doffyard.small import is_small, played, worst_story
from tests.plain_small import Play, breaks_of, is_story, longest_by_all
from tests.test_yards import Odd, part, paths, put

SMALL = (((0, 1, 0), (1, 2, 1)), ((0, 3), (1, 0)), (1, 3), "near", 2)
LONE = (((0, 1, 0),), ((0,),), (2, 1), "old", 0)
PAIR = (((0, 2, 1),), ((0,),), (2, 1), "old", 0)


def some_small(source, shapes=((1,), (2,), (3,), (1, 1), (1, 2), (2, 1), (1, 1, 1))):
    shape = source.choice(shapes)
    many = len(shape)
    frames = tuple((source.randint(0, 1), threads, source.randrange(threads)) for threads in shape)
    walks = tuple(tuple(0 if a == b else source.randint(0, 3) for b in range(many)) for a in range(many))
    return (frames, walks, (source.randint(1, 3), source.randint(1, 3)), source.choice(("near", "old", "sort")),
            source.randint(0, 2))


def some_story(source, small, beats):
    """A story that is one, drawn beat by beat."""
    play, story = Play(small), []
    for _ in range(beats):
        torn = tuple(thread for thread in play.free() if source.random() < 0.5)
        play.go(torn)
        story.append(torn)
    return tuple(story)


class Small(unittest.TestCase):
    def yes(self, thing):
        self.assertIs(is_small(thing), True, thing)

    def no(self, thing):
        self.assertIs(is_small(thing), False, thing)
        with self.assertRaises(NoSmall):
            played(thing, ())
        with self.assertRaises(NoSmall):
            played(thing, None)
        with self.assertRaises(NoSmall):
            worst_story(thing)

    def test_small_yards(self):
        for thing in (SMALL, LONE, PAIR):
            self.yes(thing)

    def test_things_of_other_kinds(self):
        for thing in (None, True, 0, -1, "", "near", b"", (), [], {}, set(), Odd(), len, list(SMALL), SMALL[:4],
                      SMALL + (0,), (SMALL,), (None,) * 5, ((),) * 5, "abcde", (Odd(),) * 5):
            self.no(thing)

    def test_other_kinds_at_each_place(self):
        for path in paths(SMALL):
            for odd in (True, False, None, "", "1", b"near", [], {}, (), -1, Odd(), (Odd(),), [1, 0], 4):
                with self.subTest(path=path, odd=odd):
                    self.no(put(SMALL, path, odd))
            old = part(SMALL, path)
            if isinstance(old, tuple):
                self.no(put(SMALL, path, list(old)))
            elif isinstance(old, int) and old in (0, 1):
                self.no(put(SMALL, path, bool(old)))

    def lone(self, **told):
        frame = (told.get("sort", 0), told.get("threads", 1), told.get("most", 0))
        return ((frame,), ((0,),), told.get("pieces", (1, 1)), told.get("rule", "old"), told.get("gap", 0))

    def test_each_bound(self):
        for number in range(-2, 7):
            for name, low, high in (("sort", 0, 1), ("threads", 1, 3), ("most", 0, 0), ("gap", 0, 2)):
                (self.yes if low <= number <= high else self.no)(self.lone(**{name: number}))
            for pieces in ((number, 1), (1, number)):
                (self.yes if 1 <= number <= 3 else self.no)(self.lone(pieces=pieces))
            for most in range(-1, 4):
                good = 1 <= number <= 3 and 0 <= most < number
                (self.yes if good else self.no)(self.lone(threads=number, most=most))
            (self.yes if 0 <= number <= 3 else self.no)(put(SMALL, (1, 0, 1), number))
            (self.yes if number == 0 else self.no)(put(SMALL, (1, 1, 1), number))
        for rule in ("near", "old", "sort"):
            self.yes(self.lone(rule=rule))
        for rule in ("", "Old", "far", b"old", None, 0):
            self.no(self.lone(rule=rule))

    def test_at_most_three_frames_and_three_threads_in_all(self):
        for shape, good in (((1,), True), ((3,), True), ((4,), False), ((1, 1), True), ((1, 2), True), ((2, 2), False),
                            ((1, 3), False), ((1, 1, 1), True), ((1, 1, 2), False), ((1, 1, 1, 1), False), ((), False)):
            many = len(shape)
            thing = (tuple((0, threads, 0) for threads in shape), ((0,) * many,) * many, (1, 1), "old", 0)
            (self.yes if good else self.no)(thing)

    def test_tuples_too_long_and_too_short(self):
        for path in paths(SMALL):
            old = part(SMALL, path)
            if isinstance(old, tuple):
                with self.subTest(path=path):
                    self.no(put(SMALL, path, old[:-1]))
                    self.no(put(SMALL, path, old + old[-1:]))

    def test_as_many_walks_as_frames(self):
        self.no(put(SMALL, (1,), ((0,),)))
        self.no(put(SMALL, (1,), ((0, 1, 1), (1, 0, 1), (1, 1, 0))))


class Played(unittest.TestCase):
    def test_worked(self):
        torn = ((0, 0),)
        self.assertEqual(played(LONE, ()), [])
        self.assertEqual(played(LONE, ((), ())), [])
        self.assertEqual(played(LONE, (torn,)), [(1, 0, 0, None)])
        self.assertEqual(played(LONE, (torn, ())), [(1, 0, 0, None)])
        self.assertEqual(played(LONE, (torn, (), ())), [(1, 0, 0, 3)])
        self.assertEqual(played(LONE, ((), torn, (), (), torn, ())), [(2, 0, 0, 4), (5, 0, 0, None)])

    def test_one_waits_for_another(self):
        both = ((0, 0), (0, 1))
        self.assertEqual(played(PAIR, (both, (), (), (), ())), [(1, 0, 0, 3), (1, 0, 1, 5)])
        self.assertEqual(played(PAIR, (both, (), (), ((0, 0),), ())), [(1, 0, 0, 3), (1, 0, 1, 5), (4, 0, 0, None)])

    def test_the_rules_and_walks(self):
        frames = ((1, 1, 0), (0, 1, 0))
        story = (((0, 0), (1, 0)),) + ((),) * 8
        for rule, wanted in (("old", [(1, 0, 0, 3), (1, 1, 0, 7)]), ("near", [(1, 0, 0, 3), (1, 1, 0, 7)]),
                             ("sort", [(1, 0, 0, 9), (1, 1, 0, 5)])):
            self.assertEqual(played((frames, ((0, 3), (2, 0)), (1, 2), rule, 0), story), wanted)
        late = ((frames[0], (0, 1, 0)), ((0, 3), (2, 0)), (1, 2), "near", 0)
        self.assertEqual(played(late, (((1, 0),), ((0, 0),)) + ((),) * 5)[0], (1, 1, 0, 5))

    def test_each_way_in_which_a_story_is_none(self):
        torn = ((0, 0),)
        two = (((0, 2, 0),), ((0,),), (2, 1), "old", 0)
        cases = [(LONE, (torn, torn)), (LONE, (torn, (), torn)), (LONE, (torn, (), (), torn, torn)),
                 (two, (torn, ((0, 1),))), (two, (torn, (), ((0, 1),))),
                 (PAIR, (((0, 1), (0, 0)),)), (PAIR, (((0, 0), (0, 0)),)), (PAIR, (((0, 2),),)), (PAIR, (((1, 0),),)),
                 (PAIR, (((0, -1),),)), (PAIR, (((-1, 0),),)), (PAIR, (((0, 0, 0),),)), (PAIR, (((0,),),)),
                 (PAIR, (((0, 1), (0, 0), (0, 1)),))]
        for small, story in cases:
            with self.assertRaises(NoStory, msg=story):
                played(small, story)
        played(two, (torn, (), (), ((0, 1),)))

    def test_each_gap(self):
        torn = ((0, 0),)
        for gap in (0, 1, 2):
            small = LONE[:4] + (gap,)
            for calm in range(5):
                first = ((),) * calm + (torn,)
                again = ((),) * gap + (torn, (), ()) + ((),) * calm + (torn,)
                # while it is whole, and not spinning, nothing counts
                for story in (first, again):
                    if calm >= gap:
                        played(small, story)
                    else:
                        with self.assertRaises(NoStory):
                            played(small, story)

    def test_beats_in_which_the_frame_stands_do_not_count(self):
        small = (((0, 2, 0),), ((0,),), (3, 1), "old", 1)
        story = ((), ((0, 0),), (), (), ())
        for calm in range(3):
            wanted = story + ((),) * calm + (((0, 1),),)
            self.assertEqual(played(small, wanted)[-1], (6 + calm, 0, 1, None))
            self.assertEqual(played(small, wanted)[0], (2, 0, 0, 5))
        with self.assertRaises(NoStory):
            played(small, ((), ((0, 0),), (), (), (), ((0, 0),)))
        # thread 0 is whole behind beat 6, but its frame stands for thread 1 till behind beat 9
        small = (((0, 2, 0),), ((0,),), (3, 1), "old", 2)
        start = ((), (), ((0, 0), (0, 1))) + ((),) * 6
        self.assertEqual([row[3] for row in played(small, start)], [6, 9])
        for calm in range(4):
            for torn in (((0, 0), (0, 1)), ((0, 0),), ((0, 1),)):
                story = start + ((),) * calm + (torn,)
                if calm >= 2:
                    played(small, story)
                else:
                    with self.assertRaises(NoStory):
                        played(small, story)

    def test_spinning_counts_on_behind_standing(self):
        # thread 1 has spun for one beat when its frame comes to stand, and spins the second one behind that
        small = (((0, 2, 0),), ((0,),), (2, 1), "old", 1)
        story = ((), ((0, 1),), (), (), ((0, 0),), (), ())
        self.assertEqual([row[3] for row in played(small, story)], [4, 7])
        played(small, story + (((0, 1),),))
        with self.assertRaises(NoStory):
            played(small, story + (((0, 0),),))

    def test_things_of_any_kind(self):
        for odd in (None, True, 0, 5, "", "ab", b"", [], {}, set(), Odd(), len, [()], ([],), (None,), (0,), ("",), ({},),
                    (set(),), (Odd(),), ((0,),), (((0, 0),), None), (((0, True),),), (((False, 0),),), (([0, 0],),),
                    (("00",),), (((0, None),),), (((0, "0"),),), ((Odd(),),), (((Odd(), 0),),), (((0, (0,)),),),
                    ([(0, 0)],), (((0, 0), None),), ((None, (0, 0)),), (((0, 10 ** 39),),)):
            with self.assertRaises(NoStory):
                played(PAIR, odd)

    def test_against_the_plain_play(self):
        source = random.Random(81)
        for _ in range(150):
            small = some_small(source)
            story = some_story(source, small, source.randint(1, 30))
            self.assertEqual(played(small, story), breaks_of(small, story), (small, story))

    def test_stories_that_are_none_against_the_plain_play(self):
        source = random.Random(82)
        both = [0, 0]
        for _ in range(400):
            small = some_small(source)
            threads = [(at, thread) for at, frame in enumerate(small[0]) for thread in range(frame[1])]
            story = list(some_story(source, small, source.randint(1, 12)))
            story[-1] = tuple(thread for thread in threads if source.random() < 0.5)
            story += [()] * source.randint(0, 2)
            story = tuple(story)
            good = is_story(small, story)
            both[good] += 1
            if good:
                self.assertEqual(played(small, story), breaks_of(small, story))
            else:
                with self.assertRaises(NoStory):
                    played(small, story)
        self.assertGreater(min(both), 80)

    def test_what_is_told_is_the_askers_own(self):
        story = (((0, 0), (0, 1)), (), (), (), ())
        told = played(PAIR, story)
        self.assertIsInstance(told, list)
        told.append("x")
        self.assertEqual(played(PAIR, story), [(1, 0, 0, 3), (1, 0, 1, 5)])
        self.assertEqual(story, (((0, 0), (0, 1)), (), (), (), ()))


class Worst(unittest.TestCase):
    def held(self, small):
        told = worst_story(small)
        self.assertEqual(told, worst_story(copy.deepcopy(small)))
        self.assertIsInstance(told, tuple)
        if told[0] == "waits":
            word, beats, story = told
            self.assertTrue(is_story(small, story))
            just = [whole - broke for broke, _, _, whole in breaks_of(small, story) if whole == len(story)]
            self.assertIn(beats, just, (small, told))
            self.assertEqual(played(small, story), breaks_of(small, story))
        else:
            word, story, again = told
            self.assertEqual(word, "endless")
            self.assertGreaterEqual(len(again), 1)
            self.assertTrue(is_story(small, story + again * 4))
            play = Play(small)
            for torn in story:
                play.go(torn)
            before, along = play.key(), {part[:2] for part in play.standing[1]}
            for turn in range(3):
                for torn in again:
                    play.go(torn)
                    along &= {part[:2] for part in play.standing[1]}
                self.assertEqual(play.key(), before)
            self.assertTrue(along, (small, told))
        return told

    def test_worked(self):
        self.assertEqual(self.held(LONE)[:2], ("waits", 2))
        self.assertEqual(self.held(PAIR)[:2], ("waits", 4))
        for piece in (1, 2, 3):
            for threads in (1, 2, 3):
                for gap in (0, 1, 2):
                    small = (((1, threads, 0),), ((0,),), (1, piece), "old", gap)
                    self.assertEqual(self.held(small)[:2], ("waits", piece * threads))

    def test_starved_by_a_near_one(self):
        # the hand stays by frame 0, whose two threads break by turns as soon as they may
        frames = ((0, 2, 1), (0, 1, 0))
        small = (frames, ((0, 1), (1, 0)), (1, 1), "near", 0)
        self.assertEqual(self.held(small)[0], "endless")
        self.assertEqual(self.held(small[:3] + ("old", 0))[0], "waits")

    def test_starved_by_a_sort(self):
        small = (((1, 1, 0), (0, 2, 1)), ((0, 0), (0, 0)), (2, 2), "sort", 0)
        self.assertEqual(self.held(small)[0], "endless")
        self.assertEqual(self.held(small[:3] + ("old", 0))[0], "waits")
        # one sort alone: none goes ahead of another
        self.assertEqual(self.held((((1, 1, 0), (1, 2, 1)), ((0, 0), (0, 0)), (2, 2), "sort", 0))[0], "waits")

    def test_each_gap(self):
        told = [self.held((((0, 2, 1), (0, 1, 0)), ((0, 1), (1, 0)), (1, 1), "near", gap))[0] for gap in (0, 1, 2)]
        self.assertEqual(told[0], "endless")
        self.assertEqual(told[2], "waits")

    def test_against_all_stories_of_some_length(self):
        source = random.Random(83)
        kinds = {}
        for turn in range(70):
            shapes = ((1,), (2,), (1, 1)) if turn % 2 else ((3,), (1, 2), (2, 1), (1, 1, 1))
            small = some_small(source, shapes)
            if turn % 5 == 0:
                small = (((0, 2, 1), (1, 1, 0)),) + some_small(source, ((2, 1),))[1:3]
                small += (source.choice(("near", "sort")), 0)
            told = self.held(small)
            kinds[told[0]] = kinds.get(told[0], 0) + 1
            if told[0] == "waits":
                beats = max(len(told[2]), 22)
                longest, yet = longest_by_all(small, beats)
                self.assertEqual(longest, told[1], small)
                self.assertLessEqual(yet, told[1], small)
            else:
                self.assertGreater(longest_by_all(small, 20)[1], 11, small)
        self.assertGreater(min(kinds.values()), 4, kinds)

    def test_many(self):
        source = random.Random(84)
        kinds = {}
        for _ in range(250):
            told = self.held(some_small(source))
            kinds[told[0]] = kinds.get(told[0], 0) + 1
        self.assertGreater(min(kinds.values()), 10)


if __name__ == "__main__":
    unittest.main()
