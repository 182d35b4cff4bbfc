"""The claims of the checker that go by other papers than LEGS, and what the checker imports."""

import copy
import itertools
import os
import random
import subprocess
import sys
import unittest

from doffyard.calls import least_hands, with_hands
from doffyard.checker import holds
from doffyard.plain import fewest_hands, plain_worst
from doffyard.small import worst_story
from tests.plain_small import Play, breaks_of, is_story
from tests.test_checker_legs import SEVEN, Taken
from tests.test_plain import FRAMES, breaks_of as waits_in, plain_yard, with_parts
from tests.test_small import LONE, PAIR, SMALL, some_small, some_story
from tests.test_yards import Odd, part, paths, put
from tests.yard_maker import BIG

ROOT = os.path.dirname(os.path.dirname(os.path.abspath(__file__)))
HOUSE = "runs stands beats events rounds spells waits counts beside keepers plain small calls doffings".split()
THINGS = (None, True, False, 0, 1, -1, 10 ** 39, "", "stands", b"", b"stands", (), [], {}, set(), frozenset(), len, object,
          ("stands",), ("short", (), 0), [("short", ())], ((((),),),), {"a": [1]}, Odd(), (Odd(),), ("calls", Odd(), Odd()))


def odd_papers(thing):
    """The thing with something of another kind at each place of it."""
    told = []
    for path in paths(thing):
        old = part(thing, path)
        told += [put(thing, path, odd) for odd in (Odd(), "x", b"", {}, [], set())]
        if isinstance(old, tuple):
            told.append(put(thing, path, list(old)))
        elif old is None:
            told += [put(thing, path, 0), put(thing, path, False)]
        elif isinstance(old, int):
            told += [put(thing, path, None), put(thing, path, str(old)), put(thing, path, (old,))]
            told += [put(thing, path, bool(old))] if old in (0, 1) else []
    return told


class Plain(Taken):
    def test_the_house(self):
        source = random.Random(101)
        for many in (1, 2, 3, 4, 9, 16):
            for pieces in ((4, 4), (1, 1)) + (((3, 7),) if many == 1 else ()):
                asked = plain_yard(FRAMES, many, pieces, ((0, 3, 1),))
                beats, rows = plain_worst(asked)
                self.yes(("plain", asked, beats), rows)
                for other in (beats - 1, beats + 1, 0, -1, str(beats), None, (beats,), True):
                    self.no(("plain", asked, other), rows)
                fewer = [own for own in rows]
                at = source.randrange(len(rows))
                fewer[at] = fewer[at][:-1]
                self.agrees(("plain", asked, beats), tuple(fewer), self.waits_so(asked, tuple(fewer), beats))

    def waits_so(self, asked, rows, beats):
        waits = waits_in(with_parts(asked, rows), beats + 2)
        return beats in [wait for key, wait in waits.items() if key[0] == 1]

    def test_other_rows(self):
        source = random.Random(102)
        frames = [(0, 2, 1, 3, 0, ()), (1, 2, 1, 3, 0, ())]
        both = [0, 0]
        for many, pieces in ((1, (2, 3)), (2, (2, 2)), (3, (2, 2)), (4, (5, 5)), (7, (5, 5))):
            asked = plain_yard(frames, many, pieces)
            beats = plain_worst(asked)[0]
            for _ in range(80):
                rows = tuple(tuple(sorted({(source.choice((1, 1, 1, 2, 3)), source.randrange(2)) for _ in range(3)}))
                             for _ in frames)
                good = self.waits_so(asked, rows, beats)
                both[good] += 1
                self.agrees(("plain", asked, beats), rows, good)
        self.assertGreater(min(both), 40)

    def test_a_break_behind_another_beat_than_the_first(self):
        asked = plain_yard([(0, 2, 1, 9, 0, ())], 1, (3, 3))
        self.yes(("plain", asked, 6), (((1, 0), (1, 1)),))
        for rows in (((2, 0), (2, 1)), ((1, 0), (2, 1)), ((1, 1), (2, 0)), ((1, 0),), ()):
            self.no(("plain", asked, 6), (rows,))
        self.yes(("plain", asked, 6), (((1, 0), (1, 1), (5, 0), (9, 1)),))

    def test_rows_that_are_none(self):
        asked = plain_yard([(0, 2, 1, 9, 0, ())], 1, (3, 3))
        good = (((1, 0), (1, 1)),)
        for rows in ((), good * 2, good[0], (((1, 1), (1, 0)),), (((1, 0), (1, 0), (1, 1)),), (((1, 0), (1, 1), (10, 0)),),
                     (((1, 0), (1, 1), (1, 2)),), (((0, 0), (1, 0), (1, 1)),), None):
            self.no(("plain", asked, 6), rows)
        many = tuple((at, thread) for at in range(1, 6) for thread in (0, 1))
        self.yes(("plain", asked, 6), (many[:8],))
        self.no(("plain", asked, 6), (many[:9],))

    def test_yards_that_are_not_plain(self):
        asked = plain_yard(FRAMES, 2, (4, 4))
        beats, rows = plain_worst(asked)
        for path, other in (((3,), "near"), ((1, 0, 1), 1), ((2, 1), 5), ((4, 0, 2), 1), ((4, 0, 3), 999), ((4, 1, 1), (0, 1)),
                            ((4,), ())):
            self.no(("plain", put(asked, path, other), beats), rows)
            self.no(("fewest", put(asked, path, other), beats, 2), rows)

    def test_other_kinds(self):
        asked = plain_yard(FRAMES[:2], 2, (4, 4))
        beats, rows = plain_worst(asked)
        claim = ("plain", asked, beats)
        self.yes(claim, rows)
        for odd in odd_papers(rows) + list(THINGS):
            self.no(claim, odd)
        for odd in odd_papers(claim):
            self.no(odd, rows)
        for odd in (claim[:2], claim + (0,), ("plains",) + claim[1:]):
            self.no(odd, rows)


class Fewest(Taken):
    asked = plain_yard(FRAMES, 2, (4, 4), ((0, 3, 1),))

    def test_the_house(self):
        for wait in range(0, 45):
            how = fewest_hands(self.asked, wait)
            for other in range(0, 12):
                rows = plain_worst(self.asked)[1]
                self.agrees(("fewest", self.asked, wait, other), rows, other == how and how != 1)
                self.agrees(("fewest", self.asked, wait, other), None, other == how == 1)
            self.no(("fewest", self.asked, wait, None), None)
            self.no(("fewest", self.asked, wait, None), plain_worst(self.asked)[1])

    def test_great_waits(self):
        for wait in (36, BIG, 10 ** 39):
            self.yes(("fewest", self.asked, wait, 1), None)
            self.no(("fewest", self.asked, wait, 2), plain_worst(self.asked)[1])

    def test_rows_by_which_none_waits_longer(self):
        frames = [(0, 3, 2, 9, 0, ())]
        asked = plain_yard(frames, 1, (2, 2))
        both = [0, 0]
        for wait in (4, 5):
            self.assertEqual(fewest_hands(asked, wait), 2)
            for many in range(4):
                for rows in itertools.combinations([(at, thread) for at in (1, 2) for thread in range(3)], many):
                    waits = waits_in(with_parts(asked, (rows,)), 12)
                    good = any(beats > wait for key, beats in waits.items() if key[0] == 1)
                    both[good] += 1
                    self.agrees(("fewest", asked, wait, 2), (rows,), good)
        self.assertGreater(min(both), 0)

    def test_hands_as_told_and_not_those_of_the_yard(self):
        for given in (1, 2, 16):
            asked = plain_yard(FRAMES, given, (4, 4), places=[1] * given)
            self.yes(("fewest", asked, 12, 3), plain_worst(asked)[1])
            self.yes(("fewest", asked, 4, 9), plain_worst(asked)[1])

    def test_pieces_unlike(self):
        asked = plain_yard(FRAMES, 1, (4, 5))
        for how in (1, 2, 3):
            for paper in (None, plain_worst(asked)[1]):
                self.no(("fewest", asked, 100, how), paper)
                self.no(("fewest", asked, 20, how), paper)

    def test_other_kinds(self):
        rows = plain_worst(self.asked)[1]
        claim = ("fewest", self.asked, 12, 3)
        self.yes(claim, rows)
        for odd in odd_papers(rows) + list(THINGS):
            self.no(claim, odd)
        for odd in odd_papers(claim):
            self.no(odd, rows)
        self.no(("fewest", self.asked, -1, 3), rows)
        self.no(("fewest", self.asked, 36, True), None)
        self.yes(("fewest", self.asked, 36, 1), None)
        for paper in (False, 0, (), rows):
            self.no(("fewest", self.asked, 36, 1), paper)
        for odd in (claim[:3], claim + (0,)):
            self.no(odd, rows)


class Stories(Taken):
    def test_worked(self):
        story = (((0, 0), (0, 1)), (), (), (), ())
        for beats in range(-1, 8):
            self.agrees(("story", PAIR, beats), story, beats in (2, 4))
            self.agrees(("story", PAIR, beats), story[:4], beats == 2)
            self.no(("story", PAIR, beats), story[:2])
            self.no(("story", PAIR, beats), ())

    def test_the_house_and_the_plain_play(self):
        source = random.Random(103)
        for _ in range(60):
            small = some_small(source)
            told = worst_story(small)
            if told[0] == "waits":
                self.yes(("story", small, told[1]), told[2])
                self.no(("story", small, told[1] + 1), told[2])
                self.no(("story", small, told[1]), told[2][:-1])
            story = some_story(source, small, 15)
            waits = [whole - broke for broke, _, _, whole in breaks_of(small, story) if whole is not None]
            for beats in range(0, 15):
                self.agrees(("story", small, beats), story, beats in waits)

    def test_stories_that_are_none(self):
        source = random.Random(104)
        both = [0, 0]
        for _ in range(200):
            small = some_small(source)
            story = list(some_story(source, small, 12))
            at = source.randrange(12)
            threads = [(frame, thread) for frame, told in enumerate(small[0]) for thread in range(told[1])]
            story[at] = tuple(thread for thread in threads if source.random() < 0.5)
            story = tuple(story)
            waits = []
            if is_story(small, story):
                waits = [row[3] - row[0] for row in breaks_of(small, story) if row[3] is not None]
            for beats in range(1, 8):
                both[beats in waits] += 1
                self.agrees(("story", small, beats), story, beats in waits)
        self.assertGreater(min(both), 50)

    def test_other_kinds(self):
        story = (((0, 0), (0, 1)), (), (), (), ())
        claim = ("story", PAIR, 4)
        self.yes(claim, story)
        for odd in odd_papers(story) + list(THINGS):
            self.no(claim, odd)
        for odd in odd_papers(claim):
            self.no(odd, story)
        for odd in (claim[:2], claim + (0,)):
            self.no(odd, story)
        self.yes(("story", LONE[:2] + ((1, 1),) + LONE[3:], 1), (((0, 0),), ()))
        self.no(("story", LONE[:2] + ((1, 1),) + LONE[3:], True), (((0, 0),), ()))


class Endless(Taken):
    small = (((0, 2, 1), (0, 1, 0)), ((0, 1), (1, 0)), (1, 1), "near", 0)

    def is_endless(self, small, story, again):
        """By the words of point 17."""
        if not again or not is_story(small, story + again):
            return False
        play = Play(small)
        for torn in story:
            play.go(torn)
        before, along = play.key(), {row[:2] for row in play.standing[1]}
        for torn in again:
            play.go(torn)
            along &= {row[:2] for row in play.standing[1]}
        return play.key() == before and bool(along)

    def test_the_house(self):
        source = random.Random(105)
        found = 0
        for _ in range(250):
            small = some_small(source, ((2, 1), (1, 2)))
            small = small[:4] + (0,)
            told = worst_story(small)
            if told[0] == "endless":
                found += 1
                _, story, again = told
                self.yes(("endless", small), (story, again))
                self.yes(("endless", small), (story, again * 3))
                self.yes(("endless", small), (story + again, again))
                self.no(("endless", small), (story, ()))
                for other in ((story[:-1], again), (story, again[:-1]), (story, again + ((),)), (story[1:], again),
                              (story + again[:1], again), (story + again[:1], again[1:] + again[:1]), ((), story),
                              ((), story + again), (again, story)):
                    self.agrees(("endless", small), other, self.is_endless(small, *other))
        self.assertGreater(found, 15)

    def test_rounds_in_which_nothing_is_broken_all_along(self):
        self.no(("endless", LONE), ((), ((),)))
        self.no(("endless", LONE), (((),), ((),)))
        # it breaks and is pieced again and again: all stands again as it stood, but it is whole between
        again = (((0, 0),), (), ())
        self.no(("endless", LONE), (((),) + again, again))
        self.no(("endless", LONE), (((0, 0),), ((), (), ((0, 0),))))
        two = ((((0, 0),),), ((), (), ((0, 0),)))
        self.assertTrue(is_story(LONE, two[0] + two[1]))
        self.no(("endless", LONE), two)
        # by turns one of two is broken in each moment, but none all along
        quick = (((0, 2, 1),), ((0,),), (1, 1), "old", 0)
        turns = (((0, 0),), ((0, 1),), ((0, 0),), ((0, 1),))
        self.assertTrue(is_story(quick, turns))
        self.no(("endless", quick), (turns[:2], turns[2:]))

    def test_drawn_rounds(self):
        source = random.Random(106)
        both = [0, 0]
        smalls = [self.small, (((1, 1, 0), (0, 2, 1)), ((0, 0), (0, 0)), (1, 1), "sort", 0)]
        for _ in range(5000):
            small = source.choice(smalls)
            story = some_story(source, small, source.randint(3, 12))
            cut = source.randrange(len(story))
            good = self.is_endless(small, story[:cut], story[cut:])
            both[good] += 1
            self.agrees(("endless", small), (story[:cut], story[cut:]), good)
        self.assertGreater(min(both), 25)

    def test_other_kinds(self):
        _, story, again = worst_story(self.small)
        claim, paper = ("endless", self.small), (story, again)
        self.yes(claim, paper)
        for odd in odd_papers(paper) + list(THINGS) + [(story,), (story, again, ()), (story + again,), [story, again]]:
            self.no(claim, odd)
        for odd in odd_papers(claim):
            self.no(odd, paper)
        for odd in (claim[:1], claim + (0,), claim + (5,), ("endless", SMALL[:4])):
            self.no(odd, paper)


class Calls(Taken):
    def test_the_house(self):
        source = random.Random(107)
        for _ in range(120):
            far = source.choice((0, 10 ** 18, BIG - 30))
            calls = []
            for _ in range(source.randint(1, 12)):
                beat = far + source.randint(1, 9)
                calls.append((beat, beat + source.choice((0, 1, 3, 9))))
            calls = tuple(sorted(calls))
            how, plan, stretch = least_hands(calls)
            self.yes(("calls", calls, how), (plan, stretch))
            for other in (how - 1, how + 1, 0, -1, True if how == 1 else False, str(how), None):
                self.no(("calls", calls, other), (plan, stretch))
            for at in range(len(plan)):
                for by in (-1, 1):
                    paper = (put(plan, (at,), plan[at] + by), stretch)
                    self.agrees(("calls", calls, how), paper, self.is_calls(calls, how, *paper))
            for by in ((-1, 0), (1, 0), (0, 1), (0, -1), (10, 0)):
                paper = (plan, (stretch[0] + by[0], stretch[1] + by[1]))
                self.agrees(("calls", calls, how), paper, self.is_calls(calls, how, *paper))
                many = source.randint(0, how)
                self.agrees(("short", calls, many), paper[1], self.is_short(calls, many, paper[1]))
            for many in range(how + 2):
                told = with_hands(calls, many)
                self.agrees(("short", calls, many), told[1:], told[0] == "short")
                self.agrees(("short", calls, many), stretch, many < how)

    def is_short(self, calls, many, stretch):
        first, last = stretch
        within = [call for call in calls if first <= call[0] and call[1] <= last]
        return 1 <= first <= last <= BIG and len(within) > many * (last - first + 1)

    def is_calls(self, calls, how, plan, stretch):
        fit = all(first <= beat <= last for beat, (first, last) in zip(plan, calls))
        return fit and max(map(plan.count, plan)) <= how and self.is_short(calls, how - 1, stretch)

    def test_worked(self):
        calls = ((1, 2), (1, 2), (2, 3), (2, 3))
        self.yes(("calls", calls, 2), ((1, 2, 2, 3), (1, 3)))
        self.yes(("calls", calls, 2), ((1, 1, 2, 2), (1, 3)))
        for plan, stretch in (((1, 2, 2, 2), (1, 3)), ((1, 2, 2, 3), (1, 2)), ((1, 2, 2, 3), (2, 3)), ((1, 2, 2, 4), (1, 3)),
                              ((0, 2, 2, 3), (1, 3)), ((1, 2, 2), (1, 3)), ((1, 2, 2, 3, 3), (1, 3)), ((1, 2, 2, 3), (0, 3)),
                              ((1, 2, 2, 3), (3, 1)), ((1, 2, 2, 3), (1, 4)), ((1, 2, 2, 3), None), ((), (1, 3)),
                              ((1, 2, 2, 3), (1, 3, 3)), ((1, 2, 2, 3), (1,))):
            self.no(("calls", calls, 2), (plan, stretch))
        self.yes(("short", calls, 1), (1, 3))
        self.no(("short", calls, 2), (1, 3))
        self.no(("short", calls, 1), (1, 2))
        self.yes(("short", calls, 0), (1, 2))
        self.no(("short", calls, 0), (1, 1))
        self.no(("short", calls, -1), (1, 3))

    def test_no_calls(self):
        self.yes(("calls", (), 0), ((), None))
        for how, paper in ((1, ((), None)), (0, ((), (1, 1))), (0, (None, None)), (0, ()), (0, None), (0, ((),)),
                           (0, ((1,), None)), (1, ((), (1, 1))), (False, ((), None)), (-1, ((), None)), (-1, ((), (1, 1)))):
            self.no(("calls", (), how), paper)
        for many in (0, 1):
            self.no(("short", (), many), (1, 1))

    def test_beats_of_a_stretch(self):
        self.yes(("short", ((1, 1),), 0), (1, 9))
        self.no(("short", ((1, 1),), 0), (0, 9))
        self.no(("short", ((1, 1),), 0), (-5, 9))
        self.yes(("short", ((BIG, BIG),), 0), (1, BIG))
        self.no(("short", ((BIG, BIG),), 0), (1, BIG + 1))

    def test_other_kinds(self):
        calls = ((1, 2), (1, 2), (2, 3), (2, 3))
        claim, paper = ("calls", calls, 2), ((1, 2, 2, 3), (1, 3))
        for odd in odd_papers(paper) + list(THINGS) + [paper + (0,), paper[:1], list(paper)]:
            self.no(claim, odd)
        for odd in odd_papers(claim) + [claim[:2], claim + (0,), ("calls", ((1, 2), (1, 1)), 2), ("calls", ((1, 1),) * 13, 13)]:
            self.no(odd, paper)
        claim, paper = ("short", calls, 1), (1, 3)
        self.yes(claim, paper)
        for odd in odd_papers(paper) + list(THINGS) + [paper + (0,), paper[:1], (paper,)]:
            self.no(claim, odd)
        for odd in odd_papers(claim) + [claim[:2], claim + (0,)]:
            self.no(odd, paper)


class Doffers(Taken):
    doffs = ((1, 3, 0), (2, 2, 1), (3, 5, 1), (3, 9, 2))

    def test_worked(self):
        self.yes(("doffers", self.doffs, 3), ((0, 1, 1, 2), 3))
        self.yes(("doffers", self.doffs, 3), ((2, 0, 1, 0), 3))
        for how, plan, beat in ((2, (0, 1, 1, 0), 3), (3, (0, 1, 1, 2), 2), (3, (0, 1, 1, 2), 4), (3, (0, 0, 1, 2), 3),
                                (3, (0, 1, 1, 1), 3), (3, (0, 1, 1, 3), 3), (3, (0, 1, 1, -1), 3), (4, (0, 1, 2, 3), 3),
                                (3, (0, 1, 1), 3), (3, (0, 1, 1, 2, 2), 3), (3, (0, 1, 1, 2), None), (3, (0, 1, 1, 2), 0),
                                (1, (0, 0, 0, 0), 1), (0, (), None), (3, (0, 1, 0, 2), 3)):
            self.no(("doffers", self.doffs, how), (plan, beat))

    def test_none(self):
        self.yes(("doffers", (), 0), ((), None))
        for how, paper in ((1, ((), None)), (0, ((), 1)), (0, ((), 0)), (0, None), (0, ()), (False, ((), None)),
                           (-1, ((), None)), (0, ((0,), None))):
            self.no(("doffers", (), how), paper)

    def test_what_doffs_are(self):
        good = [((1, 1, 0),), ((1, 1, 0), (1, 1, 3)), ((BIG, BIG + 9, 3),), ((1, BIG + 9, 0),), ((5, 6, 1), (5, 7, 0))]
        bad = [((0, 1, 0),), ((1, 0, 0),), ((2, 1, 0),), ((BIG + 1, BIG + 1, 0),), ((1, BIG + 10, 0),), ((1, 1, 4),),
               ((1, 1, -1),), ((1, 1),), ((1, 1, 0, 0),), ((1, 1, 0), (1, 1, 0)), ((2, 2, 0), (1, 1, 0)), [(1, 1, 0)],
               ([1, 1, 0],), ((True, 1, 0),), ((1, True, 0),), ((1, 1, False),), ((1, 1, None),), (("1", 1, 0),), None, 5]
        for doffs in good:
            how = max(sum(first <= beat <= last for first, last, _ in doffs) for beat, _, _ in doffs)
            plan = tuple(range(how))
            self.yes(("doffers", doffs, how), (plan, doffs[-1][0]))
        for doffs in bad:
            for how, plan in ((1, (0,)), (1, (0, 0)), (2, (0, 1))):
                self.no(("doffers", doffs, how), (plan, 1))
        thirty = tuple((beat, beat, 0) for beat in range(1, 31))
        self.yes(("doffers", thirty, 1), ((0,) * 30, 30))
        self.no(("doffers", thirty + ((31, 31, 0),), 1), ((0,) * 31, 30))

    def test_drawn(self):
        source = random.Random(108)
        both = [0, 0]
        for _ in range(300):
            far = source.choice((0, BIG - 20))
            doffs = set()
            for _ in range(source.randint(1, 6)):
                first = far + source.randint(1, 12)
                doffs.add((first, first + source.randint(0, 5), source.randrange(4)))
            doffs = tuple(sorted(doffs))
            how = max(sum(first <= beat <= last for first, last, _ in doffs) for beat, _, _ in doffs)
            plan, beat = tuple(source.randrange(how) for _ in doffs), source.choice(doffs)[0]
            for at in range(len(doffs)):
                taken = [plan[other] for other in range(at) if doffs[other][1] >= doffs[at][0]]
                free = [number for number in range(how) if number not in taken]
                if source.random() < 0.9:
                    plan = put(plan, (at,), free[0])
            clash = any(plan[a] == plan[b] and doffs[a][1] >= doffs[b][0] and doffs[b][1] >= doffs[a][0]
                        for a in range(len(doffs)) for b in range(a))
            good = not clash and sum(first <= beat <= last for first, last, _ in doffs) == how
            both[good] += 1
            self.agrees(("doffers", doffs, how), (plan, beat), good)
            self.no(("doffers", doffs, how + 1), (plan, beat))
            self.no(("doffers", doffs, how - 1), (plan, beat))
        self.assertGreater(min(both), 60)

    def test_other_kinds(self):
        claim, paper = ("doffers", self.doffs, 3), ((0, 1, 1, 2), 3)
        self.yes(claim, paper)
        for odd in odd_papers(paper) + list(THINGS) + [paper + (0,), paper[:1], list(paper)]:
            self.no(claim, odd)
        for odd in odd_papers(claim) + [claim[:2], claim + (0,)]:
            self.no(odd, paper)


class AnyKind(Taken):
    def test_things_of_any_kind(self):
        for claim in THINGS:
            for paper in THINGS:
                self.no(claim, paper)

    def test_other_words(self):
        for word in ("", "stand", "Short", "short ", "papers", b"short", None, 0, ("short",), ["short"], Odd(), {}):
            self.no((word, ((1, 1),), 0), (1, 1))
        self.yes(("short", ((1, 1),), 0), (1, 1))
        self.no(["short", ((1, 1),), 0], (1, 1))
        self.no("short", (1, 1))

    def test_the_papers_of_one_claim_for_another(self):
        calls = ((1, 2), (1, 2), (2, 3), (2, 3))
        good = [(("calls", calls, 2), ((1, 2, 2, 3), (1, 3))), (("short", calls, 1), (1, 3)),
                (("doffers", Doffers.doffs, 3), ((0, 1, 1, 2), 3)), (("story", PAIR, 2), (((0, 0),), (), ())),
                (("endless", Endless.small), worst_story(Endless.small)[1:]), (("fewest", Fewest.asked, 99, 1), None),
                (("plain", Fewest.asked, 20), plain_worst(Fewest.asked)[1])]
        for at, (claim, paper) in enumerate(good):
            self.yes(claim, paper)
            for other, (_, odd) in enumerate(good):
                if other != at:
                    self.no(claim, odd)

    def test_nothing_is_changed(self):
        rows = [[1], {2: [3]}, ["short"]]
        things = [("short", rows, 0), ("stands", SEVEN, rows, rows), rows, ("calls", (rows,), 1)]
        kept = copy.deepcopy(things)
        for claim in things:
            for paper in things:
                self.no(claim, paper)
        self.assertEqual(things, kept)


class Imports(unittest.TestCase):
    def test_which_modules_the_checker_imports(self):
        code = "import sys, doffyard.checker; print(' '.join(sorted(name for name in sys.modules if 'doffyard' in name)))"
        run = subprocess.run([sys.executable, "-c", code], cwd=ROOT, env={**os.environ, "PYTHONPATH": ROOT},
                             capture_output=True, text=True, check=True)
        names = run.stdout.split()
        self.assertIn("doffyard.checker", names)
        for name in HOUSE + ["papers", "shortcuts", "trails", "desk"]:
            self.assertNotIn("doffyard." + name, names)


if __name__ == "__main__":
    unittest.main()
