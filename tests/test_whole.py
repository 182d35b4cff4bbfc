"""What holds over the whole program: yards told by their halves, their rounds, their worst, and all refusals by turns."""

import copy
import math
import random
import unittest

from doffyard.beats import frames_do, hands_do
from doffyard.beside import beside, gone_at, without_stray
from doffyard.calls import least_hands, with_hands
from doffyard.counts import counts
from doffyard.desk import Desk
from doffyard.doffings import doffings, least_doffers, with_doffers
from doffyard.errors import (DoffError, NoCalls, NoDoffs, NoFrame, NoHand, NoMany, NoMinds, NoMoment, NoPlain, NoRow, NoSmall,
                             NoSpun, NoStory, NoStray, NoText, NoThread, NoWait, NoYard)
from doffyard.events import next_event
from doffyard.keepers import Keeper
from doffyard.papers import (paper_calls, paper_doffers, paper_fewest, paper_plain, paper_round, paper_short, paper_small,
                             paper_stands, paper_unlike)
from doffyard.plain import fewest_hands, plain_worst
from doffyard.rounds import are_alike, round_of
from doffyard.small import played, worst_story
from doffyard.spells import spells
from doffyard.stands import stands
from doffyard.waits import breaks, longest
from doffyard.yardtexts import read_yard, show_yard
from tests.plain_small import is_story
from tests.plain_walk import walked
from tests.test_checker_legs import CALM, SEVEN
from tests.test_keepers import some_deed
from tests.test_plain import FRAMES, plain_yard
from tests.test_small import SMALL, some_small
from tests.yard_maker import BIG, lively_yard, made, rising, some_frame, some_yard

FAR = 10 ** 20


def together(one, two, between):
    """Both yards in one, with as many beats between the frames of the one and the other; rule and PIECES of the first."""
    frames, walks, pieces, rule, hands, strays = one
    many, more = len(frames), len(two[0])
    walks = tuple(row + (between,) * more for row in walks) + tuple((between,) * many + row for row in two[1])
    hands += tuple((frame + many, tuple(mind + many for mind in minds), start, end) for frame, minds, start, end in two[4])
    strays += tuple((frame + many, spun, thread) for frame, spun, thread in two[5])
    return (frames + two[0], walks, pieces, rule, hands, rising(strays))


def moved(rows, at, by):
    """Rows with the part at that place so much more."""
    return [row[:at] + (row[at] + by,) + row[at + 1:] for row in rows]


def of_both(one, two):
    """What longest tells of two yards in one, by what it tells of each; the frames are called as in the one."""
    ends = [told[1] for told in (one, two) if told[0] == "endless"]
    if ends:
        return ("endless", min(ends, key=lambda torn: torn[:3]))
    waits = [told for told in (one, two) if told[0] == "waits"]
    return min(waits, key=lambda told: (-told[1], told[2]), default=("none",))


class Halves(unittest.TestCase):
    def each_half_as_alone(self, one, two, both, low):
        many, hands = len(one[0]), len(one[4])
        for moment in (0, 1, low, low + 17):
            mine, theirs = stands(one, moment), stands(two, moment)
            torn = list(mine[1]) + moved(theirs[1], 0, many)
            there = tuple(hand and (hand[0] + many, hand[1] and (hand[1][0] + many, hand[1][1]), hand[2]) for hand in theirs[2])
            wanted = (mine[0] + theirs[0], tuple(sorted(torn, key=lambda row: (row[2], row[0], row[1]))), mine[2] + there,
                      tuple(map(sum, zip(mine[3], theirs[3]))))
            self.assertEqual(stands(both, moment), wanted)
            beat = moment + 1
            self.assertEqual(frames_do(both, beat), frames_do(one, beat) + frames_do(two, beat))
            self.assertEqual(hands_do(both, beat), hands_do(one, beat) + hands_do(two, beat))
            events = [event for event in (next_event(one, moment), next_event(two, moment)) if event is not None]
            self.assertEqual(next_event(both, moment), min(events, default=None))
        for frame in range(len(both[0])):
            alone = spells(one, frame, low, low + 40) if frame < many else spells(two, frame - many, low, low + 40)
            self.assertEqual(spells(both, frame, low, low + 40), alone)
        doffed = doffings(one, low, low + 40) + moved(doffings(two, low, low + 40), 2, many)
        self.assertEqual(doffings(both, low, low + 40), sorted(doffed))
        torn = breaks(one, low, low + 40) + moved(breaks(two, low, low + 40), 1, many)
        self.assertEqual(breaks(both, low, low + 40), sorted(torn, key=lambda row: row[:3]))
        self.assertEqual(len(both[4]), hands + len(two[4]))

    def test_two_yards_in_one(self):
        source = random.Random(281)
        for turn in range(60):
            far = source.choice((60, FAR))
            one = some_yard(source, far, 6, 2, 2)
            two = some_yard(source, far, 6, 2, 2)
            two = two[:2] + one[2:4] + two[4:]
            one, two = one[:5] + (one[5][:8],), two[:5] + (two[5][:8],)
            both = together(one, two, source.randint(0, 9))
            self.each_half_as_alone(one, two, both, source.choice((1, 30, FAR - 20)))
            theirs = longest(two)
            if theirs[0] != "none":
                theirs = theirs[:-1] + (moved(theirs[-1:], 1, len(one[0]))[0],)
            self.assertEqual(longest(both), of_both(longest(one), theirs))
            mine, other = round_of(one), round_of(two)
            lead, beats, lengths = round_of(both)
            self.assertEqual(beats, math.lcm(mine[1], other[1]))
            self.assertGreaterEqual(lead, max(mine[0], other[0]))
            wanted = [a * (beats // mine[1]) + b * (beats // other[1]) for a, b in zip(mine[2], other[2])]
            self.assertEqual(list(lengths), wanted)

    def test_beside_half_by_half(self):
        source = random.Random(282)
        for _ in range(30):
            one, two = lively_yard(source, FAR, 1), lively_yard(source, FAR, 1)
            two = two[:2] + one[2:4] + two[4:]
            less, fewer = without_stray(one, 0), gone_at(two, 0, source.randint(1, FAR))
            both = together(one, two, 3)
            self.assertEqual(beside(both, together(less, two, 3)), beside(one, less))
            self.assertEqual(beside(both, together(one, fewer, 3)), beside(two, fewer))
            spans = [beside(one, less), beside(two, fewer)]
            firsts = [span[0] for span in spans if span[0] is not None]
            lasts = [span[1] for span in spans if span[0] is not None]
            wanted = (min(firsts, default=None), None if None in lasts or not lasts else max(lasts))
            self.assertEqual(beside(both, together(less, fewer, 3)), wanted)


class Names(unittest.TestCase):
    def test_another_frame_put_in_anywhere(self):
        # frames keep their order, so that of alike threads the same one is taken
        source = random.Random(283)
        still = (0, 1, 0, 30, 0, ())
        for _ in range(40):
            asked = some_yard(source, source.choice((60, FAR)), 6, 3, 3)
            many = len(asked[0])
            at = source.randint(0, many)
            new = [number + (number >= at) for number in range(many)]
            frames, walks, pieces, rule, hands, strays = asked
            rows = [row[:at] + (9,) + row[at:] for row in walks]
            rows[at:at] = [(9,) * at + (0,) + (9,) * (many - at)]
            other = (frames[:at] + (still,) + frames[at:], tuple(rows), pieces, rule,
                     tuple((new[hand[0]], tuple(new[mind] for mind in hand[1])) + hand[2:] for hand in hands),
                     rising((new[frame], spun, thread) for frame, spun, thread in strays))
            told = longest(asked)
            if told[0] != "none":
                broke, frame, thread, whole = told[-1]
                told = told[:-1] + ((broke, new[frame], thread, whole),)
            self.assertEqual(longest(other), told)
            first = source.choice((1, FAR))
            for number in range(many):
                self.assertEqual(spells(other, new[number], first, first + 60), spells(asked, number, first, first + 60))
            wanted = [(broke, new[frame], thread, whole) for broke, frame, thread, whole in breaks(asked, first, first + 60)]
            self.assertEqual(breaks(other, first, first + 60), wanted)
            self.assertEqual(next_event(other, first), next_event(asked, first))

    def test_frames_called_otherwise(self):
        # hands that mind one frame each have nothing to choose by a frame's number
        source = random.Random(284)
        for _ in range(40):
            asked = some_yard(source, source.choice((60, FAR)), 6, 4, 4)
            frames, walks, pieces, rule, hands, strays = asked
            hands = tuple((hand[0], hand[1][:1]) + hand[2:] for hand in hands)
            asked = (frames, walks, pieces, rule, hands, strays)
            old = list(range(len(frames)))
            source.shuffle(old)
            new = [old.index(number) for number in range(len(frames))]
            other = (tuple(frames[number] for number in old), tuple(tuple(walks[a][b] for b in old) for a in old), pieces, rule,
                     tuple((new[hand[0]], (new[hand[1][0]],)) + hand[2:] for hand in hands),
                     rising((new[frame], spun, thread) for frame, spun, thread in strays))
            first = source.choice((1, FAR))
            doing = frames_do(asked, first + 9)
            self.assertEqual(frames_do(other, first + 9), tuple(doing[number] for number in old))
            self.assertEqual(hands_do(other, first + 9), hands_do(asked, first + 9))
            self.assertEqual(stands(other, first)[3], stands(asked, first)[3])
            wanted = sorted((start, end, new[frame]) for start, end, frame in doffings(asked, first, first + 60))
            self.assertEqual(doffings(other, first, first + 60), wanted)
            wanted = {(broke, new[frame], thread, whole) for broke, frame, thread, whole in breaks(asked, first, first + 60)}
            self.assertEqual(set(breaks(other, first, first + 60)), wanted)
            self.assertEqual(next_event(other, first), next_event(asked, first))
            self.assertEqual(longest(other)[0], longest(asked)[0])
            self.assertEqual(round_of(other)[1:], round_of(asked)[1:])


class Stretches(unittest.TestCase):
    def test_side_by_side(self):
        source = random.Random(285)
        for _ in range(40):
            asked = some_yard(source, source.choice((60, FAR)), 9, 3, 3)
            low = source.choice((1, source.randint(1, 60), FAR - 9, BIG - 99))
            cut, high = low + source.randint(0, 30), low + source.randint(31, 99)
            for ask in (breaks, doffings):
                self.assertEqual(ask(asked, low, cut) + ask(asked, cut + 1, high), ask(asked, low, high))
            for frame in range(len(asked[0])):
                mine, theirs = spells(asked, frame, low, cut), spells(asked, frame, cut + 1, high)
                if mine[-1][2] == theirs[0][2]:
                    mine[-1:] = [(mine[-1][0],) + theirs.pop(0)[1:]]
                self.assertEqual(mine + theirs, spells(asked, frame, low, high))

    def test_moved_on_by_rounds(self):
        source = random.Random(286)
        found = 0
        for _ in range(60):
            asked = lively_yard(source, source.choice((30, 10 ** 9)), 2)
            lead, beats, lengths = round_of(asked)
            low = lead + source.randint(1, 30)
            by = beats * source.choice((1, 2, 10 ** 9, BIG // beats // 10))
            if low + by + 50 > BIG:
                continue
            found += 1
            self.assertTrue(are_alike(asked, low, low + by))
            self.assertEqual(frames_do(asked, low), frames_do(asked, low + by))
            self.assertEqual(doffings(asked, low + by, low + by + 50), moved(moved(doffings(asked, low, low + 50), 0, by), 1, by))
            ends = [None if row[3] is None else row[3] + by for row in breaks(asked, low, low + 50)]
            wanted = [row[:3] + (end,) for row, end in zip(moved(breaks(asked, low, low + 50), 0, by), ends)]
            self.assertEqual(breaks(asked, low + by, low + by + 50), wanted)
            wanted = moved(moved(spells(asked, 0, low, low + 50), 0, by), 1, by)
            self.assertEqual(spells(asked, 0, low + by, low + by + 50), wanted)
            event = next_event(asked, low)
            self.assertEqual(next_event(asked, low + by), None if event is None else event + by)
            grown = [new - old for old, new in zip(stands(asked, low)[3], stands(asked, low + by)[3])]
            self.assertEqual(grown, [length * (by // beats) for length in lengths])
        self.assertGreater(found, 40)

    def test_no_break_waits_longer_than_told(self):
        source = random.Random(287)
        for _ in range(60):
            asked = some_yard(source, source.choice((60, FAR)), 6, 2, 3)
            told = longest(asked)
            for low in (1, source.randint(1, 200), FAR - 50, source.randint(1, BIG - 100)):
                for row in breaks(asked, low, low + 100):
                    self.assertNotEqual(told[0], "none")
                    if told[0] == "waits":
                        self.assertLessEqual(row[3] - row[0], told[1])
                    elif row[3] is None:
                        self.assertLessEqual(told[1][:3], row[:3])
            if told[0] != "none" and told[-1][0] <= BIG:
                self.assertIn(told[-1], breaks(asked, told[-1][0], told[-1][0]))


class Worst(unittest.TestCase):
    def test_no_yard_of_a_plain_yards_threads_waits_longer(self):
        source = random.Random(288)
        for _ in range(80):
            frames = [some_frame(source, 6) for _ in range(source.randint(1, 3))]
            many = source.randint(1, 5)
            pieces = (source.randint(1, 5),) * 2 if many > 1 else (source.randint(1, 5), source.randint(1, 5))
            asked = plain_yard(frames, many, pieces)
            beats, rows = plain_worst(asked)
            strays = rising((frame, source.choice((source.randint(1, 40), FAR + source.randint(0, 5))), source.randrange(told[1]))
                            for frame, told in enumerate(frames) for _ in range(source.randint(0, 4)))
            told = longest(asked[:5] + (strays,))
            self.assertNotEqual(told[0], "endless")
            if told[0] == "waits":
                self.assertLessEqual(told[1], beats)
            torn = tuple(frame[:5] + (own,) for frame, own in zip(asked[0], rows))
            self.assertIn(beats, [whole - broke for broke, _, _, whole in breaks((torn,) + asked[1:5] + ((),), 1, 1)])
            self.assertEqual(longest((torn,) + asked[1:5] + ((),))[:2], ("waits", beats))

    def test_the_fewest_hands_of_a_plain_yard(self):
        source = random.Random(289)
        for _ in range(30):
            frames = [some_frame(source, 6) for _ in range(source.randint(1, 2))]
            asked = plain_yard(frames, 1, (source.randint(1, 3),) * 2)
            wait = source.randint(0, 12)
            how = fewest_hands(asked, wait)
            truths = counts(asked, 0, wait, 6)
            if how is not None:
                self.assertTrue(all(truths[how - 1:]))
            rows = plain_worst(asked)[1]
            torn = (tuple(frame[:5] + (own,) for frame, own in zip(asked[0], rows)),) + asked[1:]
            wanted = tuple(how is not None and how <= count for count in range(1, 7))
            self.assertEqual(counts(torn, 0, wait, 6), wanted)

    def test_no_yard_of_a_small_yards_threads_waits_longer(self):
        source = random.Random(290)
        found = 0
        for _ in range(150):
            small = some_small(source)
            frames, walks, pieces, rule, gap = small
            told = worst_story(small)
            full = source.randint(3, 9)
            grown = []
            for sort, threads, most in frames:
                rows = rising((source.randint(1, full), source.randrange(threads)) for _ in range(source.randint(0, 3)))
                grown.append((sort, threads, most, full, 0, rows))
            strays = rising((frame, source.randint(1, 30), source.randrange(frames[frame][1]))
                            for frame in range(len(frames)) for _ in range(2))
            asked = (tuple(grown), walks, pieces, rule, ((0, tuple(range(len(frames))), 0, None),), strays)
            rows = walked(asked, 60)
            story = tuple(tuple(sorted(torn[:2] for torn in row[1] if torn[2] == beat)) for beat, row in enumerate(rows))[1:]
            if is_story(small, story):
                found += 1
                ends = [row[:3] + (row[3] if row[3] is not None and row[3] <= 60 else None,) for row in breaks(asked, 1, 60)]
                self.assertEqual(played(small, story), ends)
                if told[0] == "waits" and gap == 0:
                    self.assertLessEqual(longest(asked)[1], told[1])
                for broke, _, _, whole in ends:
                    if whole is not None and told[0] == "waits":
                        self.assertLessEqual(whole - broke, told[1])
            elif gap == 0:
                self.fail(asked)
        self.assertGreater(found, 60)


class KeptYards(unittest.TestCase):
    def test_a_kept_yard_tells_what_a_new_one_tells(self):
        source = random.Random(291)
        for _ in range(10):
            asked = some_yard(source, 60, 5, 2, 2)
            keeper = Keeper(asked)
            deeds = []
            for _ in range(6):
                keeper.run(keeper.moment() + source.randint(0, 20))
                if some_deed(source, keeper) is not None:
                    deeds.append(keeper.moment())
            new = copy.deepcopy(keeper.yard())
            for ask in (longest, round_of, show_yard):
                self.assertEqual(ask(keeper.yard()), ask(new))
            now = keeper.moment()
            self.assertEqual(keeper.stands_now(), stands(new, now))
            self.assertEqual(beside(keeper.yard(), new), (None, None))
            # what was before the first deed stays
            first = beside(asked, keeper.yard())[0]
            self.assertTrue(first is None or first > deeds[0])


TWO = made([(0, 2, 1, 4, 1, ((2, 0),)), (1, 3, 0, 7, 0, ((3, 2),))], [(0, (0, 1), 0, None)], ((0, 9, 1),))
PLAIN = plain_yard(FRAMES, 2, (4, 4))
ODD = (None, True, "0", b"0", (), [0], {}, -1, len)
CALLS = ((1, 1), (1, 1))
# each function with what it takes, and for each argument what is none and the refusal of it
ASKED = (
    (show_yard, ((TWO, NoYard),)), (read_yard, ((show_yard(TWO), NoText),)),
    (stands, ((TWO, NoYard), (5, NoMoment))), (frames_do, ((TWO, NoYard), (5, NoMoment))),
    (hands_do, ((TWO, NoYard), (5, NoMoment))), (next_event, ((TWO, NoYard), (5, NoMoment))),
    (are_alike, ((TWO, NoYard), (5, NoMoment), (6, NoMoment))), (round_of, ((TWO, NoYard),)),
    (spells, ((TWO, NoYard), (1, NoFrame), (5, NoMoment), (6, NoMoment))),
    (breaks, ((TWO, NoYard), (5, NoMoment), (6, NoMoment))), (longest, ((TWO, NoYard),)),
    (counts, ((TWO, NoYard), (1, NoFrame), (5, NoWait), (3, NoMany))), (beside, ((TWO, NoYard), (TWO, NoYard))),
    (without_stray, ((TWO, NoYard), (0, NoStray))), (gone_at, ((TWO, NoYard), (0, NoHand), (5, NoMoment))),
    (Keeper, ((TWO, NoYard),)), (plain_worst, ((PLAIN, NoYard),)), (fewest_hands, ((PLAIN, NoYard), (9, NoWait))),
    (worst_story, ((SMALL, NoSmall),)), (played, ((SMALL, NoSmall), ((), NoStory))), (least_hands, ((CALLS, NoCalls),)),
    (with_hands, ((CALLS, NoCalls), (1, NoMany))), (doffings, ((TWO, NoYard), (5, NoMoment), (6, NoMoment))),
    (least_doffers, ((((1, 2, 0),), NoDoffs),)), (with_doffers, ((((1, 2, 0),), NoDoffs), (1, NoMany))),
    (paper_stands, ((TWO, NoYard), (5, NoMoment))), (paper_round, ((TWO, NoYard),)),
    (paper_unlike, ((TWO, NoYard), (TWO[:5] + ((),), NoYard))), (paper_plain, ((PLAIN, NoYard),)),
    (paper_fewest, ((PLAIN, NoYard), (9, NoWait))), (paper_small, ((SMALL, NoSmall),)), (paper_calls, ((CALLS, NoCalls),)),
    (paper_short, ((CALLS, NoCalls), (1, NoMany))), (paper_doffers, ((((1, 2, 0),), NoDoffs),)), (Desk, ((TWO, NoYard),)))


def kept(name):
    """A keeper's deed as a function of its own, of a new keeper each time."""
    def deed(*parts):
        keeper = Keeper(TWO)
        keeper.run(9)
        return getattr(keeper, name)(*parts)
    return deed


DEEDS = ((kept("run"), ((9, NoMoment),)), (kept("come"), ((1, NoFrame), ((0, 1), NoMinds))), (kept("go"), ((0, NoHand),)),
         (kept("put_stray"), ((1, NoFrame), (90, NoSpun), (2, NoThread))), (Desk(TWO).say, (("now", NoRow),)))


class Refusals(unittest.TestCase):
    def test_the_first_from_the_left(self):
        for ask, parts in ASKED + DEEDS:
            good = [part for part, _ in parts]
            ask(*good)
            for at, (_, refusal) in enumerate(parts):
                for odd in ODD:
                    if odd == () and refusal in (NoCalls, NoDoffs, NoStory):
                        continue
                    for rest in (good[at + 1:], [odd] * (len(good) - at - 1), [None] * (len(good) - at - 1)):
                        with self.subTest(ask=getattr(ask, "__name__", ask), at=at, odd=odd, rest=rest):
                            with self.assertRaises(DoffError) as caught:
                                ask(*good[:at], odd, *rest)
                            self.assertIs(type(caught.exception), refusal)

    def test_unplain_yards_ahead_of_the_wait(self):
        for wait in (5, None):
            for ask in (fewest_hands, paper_fewest):
                with self.assertRaises(NoPlain):
                    ask(TWO[:3] + ("near",) + TWO[4:], wait)


class Spoilt(unittest.TestCase):
    def test_lists_that_were_told_are_the_askers_own(self):
        story = (((0, 0),), (), ())
        small = (((0, 2, 1),), ((0,),), (2, 1), "old", 0)
        asks = ((spells, (TWO, 0, 1, 90)), (breaks, (TWO, 1, 90)), (doffings, (TWO, 1, 90)), (played, (small, story)))
        for ask, parts in asks:
            told = ask(*parts)
            wanted = copy.deepcopy(told)
            again = ask(*parts)
            told[0] = "spoilt"
            told.append(None)
            self.assertEqual(again, wanted)
            self.assertIsNot(again, told)
            again.clear()
            self.assertEqual(ask(*parts), wanted)

    def test_the_same_each_time_and_in_any_order(self):
        asks = [(ask, tuple(part for part, _ in parts)) for ask, parts in ASKED if ask not in (Keeper, Desk)]
        first = [ask(*copy.deepcopy(parts)) for ask, parts in asks]
        again = [ask(*parts) for ask, parts in asks[::-1]][::-1]
        self.assertEqual(first, again)

    def test_what_was_told_may_be_handed_in(self):
        doffs = tuple(doffings(TWO, 1, 40))
        self.assertEqual(least_doffers(doffs)[0], 1)
        self.assertEqual(read_yard(show_yard(without_stray(TWO, 0))), TWO[:5] + ((),))
        told = plain_worst(PLAIN)
        torn = tuple(frame[:5] + (rows,) for frame, rows in zip(PLAIN[0], told[1]))
        self.assertEqual(longest((torn,) + PLAIN[1:])[1], told[0])
        self.assertEqual(beside(CALM, gone_at(CALM, 0, FAR)), (None, None))
        lead, beats, _ = round_of(SEVEN)
        self.assertIs(are_alike(SEVEN, lead, lead + beats), True)
        story = worst_story(SMALL)
        self.assertIsInstance(played(SMALL, story[2] if story[0] == "waits" else story[1] + story[2]), list)


if __name__ == "__main__":
    unittest.main()
