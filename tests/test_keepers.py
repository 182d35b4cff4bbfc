import copy
import random
import unittest

from doffyard.errors import (DoffError, NoFrame, NoHand, NoMinds, NoMoment, NoSpun, NoStray, NoStrike, NoThread,
                             NoYard, TooMany)
from doffyard.keepers import Keeper
from doffyard.stands import stands
from doffyard.yards import is_yard
from tests.plain_walk import leapt, walked
from tests.yard_maker import ALWAYS, BIG, made, some_yard

ODD = (-1, None, True, False, "0", b"0", "", (), (0,), [0], {}, set(), len)
FRAME = (0, 2, 1, 4, 1, ((2, 0),))
TWO = made([FRAME, (1, 3, 0, 7, 0, ((3, 2),))], [(0, (0, 1), 0, None), (1, (1,), 5, 30)], ((0, 9, 1), (1, 4, 0)),
           walks=((0, 2), (1, 0)), pieces=(2, 3))


class Kept(unittest.TestCase):
    def told(self, keeper):
        return (keeper.yard(), keeper.moment(), keeper.stands_now())

    def refused(self, keeper, refusal, deed, *parts):
        """The deed is refused with just that class, and nothing is changed by it."""
        before = self.told(keeper)
        with self.assertRaises(DoffError) as caught:
            getattr(keeper, deed)(*parts)
        self.assertIs(type(caught.exception), refusal, (deed, parts))
        self.assertEqual(self.told(keeper), before)

    def test_a_new_keeper(self):
        keeper = Keeper(TWO)
        self.assertEqual(self.told(keeper), (TWO, 0, stands(TWO, 0)))

    def test_no_yards(self):
        for odd in ODD + (TWO[:5], list(TWO), TWO + ((),), 7):
            with self.assertRaises(NoYard):
                Keeper(odd)

    def test_run(self):
        keeper = Keeper(TWO)
        for moment in (0, 1, 1, 30, 31, 10 ** 20, BIG, BIG):
            self.assertIsNone(keeper.run(moment))
            self.assertEqual(self.told(keeper), (TWO, moment, stands(TWO, moment)))

    def test_no_moments(self):
        keeper = Keeper(TWO)
        keeper.run(7)
        for odd in ODD + (6, 0, BIG + 1):
            self.refused(keeper, NoMoment, "run", odd)
        keeper.run(BIG)
        self.refused(keeper, NoMoment, "run", BIG - 1)

    def test_come(self):
        keeper = Keeper(TWO)
        self.assertEqual(keeper.come(1, (0,)), 2)
        keeper.run(12)
        number = keeper.come(0, (0, 1))
        self.assertEqual(number, 3)
        self.assertIs(type(number), int)
        wanted = TWO[:4] + (TWO[4] + ((1, (0,), 0, None), (0, (0, 1), 12, None)), TWO[5])
        self.assertEqual(self.told(keeper), (wanted, 12, stands(wanted, 12)))
        self.assertEqual(keeper.stands_now()[2][3], None)
        keeper.run(BIG)
        self.assertEqual(keeper.come(0, (1,)), 4)
        self.assertEqual(keeper.yard()[4][4], (0, (1,), BIG, None))
        self.assertTrue(is_yard(keeper.yard()))

    def test_come_refused(self):
        keeper = Keeper(TWO)
        for odd in ODD + (2, 3):
            self.refused(keeper, NoFrame, "come", odd, (0,))
            self.refused(keeper, NoFrame, "come", odd, None)
        for odd in (-1, None, True, "0", b"0", "", (), [0], {}, set(), len, 0, (2,), (-1,), (0, 0), (1, 0), (0, 1, 2),
                    (0, 1, 1), (True,), (0, True), ("0",), (None,), ((0,),), ([0],)):
            self.refused(keeper, NoMinds, "come", 0, odd)

    def test_sixteen_hands(self):
        keeper = Keeper(TWO)
        for number in range(2, 16):
            self.assertEqual(keeper.come(0, (0,)), number)
        self.refused(keeper, TooMany, "come", 0, (0,))
        self.refused(keeper, NoFrame, "come", 2, (0,))
        self.refused(keeper, NoMinds, "come", 0, ())
        self.assertIsNone(keeper.strike())
        self.assertEqual(keeper.come(1, (1,)), 15)

    def test_go(self):
        keeper = Keeper(TWO)
        keeper.run(6)
        self.assertIsNone(keeper.go(1))
        self.assertEqual(keeper.yard()[4], (TWO[4][0], (1, (1,), 5, 6)))
        self.assertEqual(keeper.stands_now(), stands(keeper.yard(), 6))
        self.assertIsNotNone(keeper.stands_now()[2][1])
        self.refused(keeper, NoHand, "go", 1)
        keeper.run(7)
        self.assertIsNone(keeper.stands_now()[2][1])
        self.refused(keeper, NoHand, "go", 1)
        self.assertIsNone(keeper.go(0))
        self.assertEqual(keeper.yard()[4], ((0, (0, 1), 0, 7), (1, (1,), 5, 6)))

    def test_go_refused(self):
        keeper = Keeper(TWO)
        for odd in ODD + (2, 3, 16):
            self.refused(keeper, NoHand, "go", odd)
        self.refused(keeper, NoHand, "go", 0)
        keeper.run(5)
        self.refused(keeper, NoHand, "go", 1)
        keeper.run(29)
        keeper.go(1)
        keeper.strike()
        keeper.run(30)
        self.refused(keeper, NoHand, "go", 1)
        keeper.run(31)
        self.refused(keeper, NoHand, "go", 1)

    def test_who_came_now_cannot_go_now(self):
        for moment in (0, 8, 10 ** 20, BIG - 1):
            keeper = Keeper(TWO)
            keeper.run(moment)
            number = keeper.come(0, (0,))
            self.refused(keeper, NoHand, "go", number)
            keeper.run(moment + 1)
            self.assertIsNone(keeper.go(number))
            self.assertEqual(keeper.yard()[4][number], (0, (0,), moment, moment + 1))

    def test_put_stray(self):
        keeper = Keeper(TWO)
        keeper.run(3)
        spun = keeper.stands_now()[0][0][0]
        self.assertIsNone(keeper.put_stray(0, spun + 1, 0))
        self.assertIsNone(keeper.put_stray(1, BIG, 2))
        self.assertIsNone(keeper.put_stray(0, 9, 0))
        wanted = tuple(sorted(TWO[5] + ((0, spun + 1, 0), (1, BIG, 2), (0, 9, 0))))
        self.assertEqual(keeper.yard(), TWO[:5] + (wanted,))
        self.assertTrue(is_yard(keeper.yard()))
        self.assertEqual(keeper.stands_now(), stands(TWO, 3))

    def test_put_stray_refused(self):
        keeper = Keeper(TWO)
        keeper.run(20)
        spun = keeper.stands_now()[0][1][0]
        self.assertGreater(spun, 3)
        for odd in ODD + (2,):
            self.refused(keeper, NoFrame, "put_stray", odd, spun + 1, 0)
            self.refused(keeper, NoFrame, "put_stray", odd, None, None)
        for odd in ODD + (0, 1, spun - 1, spun, BIG + 1):
            self.refused(keeper, NoSpun, "put_stray", 1, odd, 0)
            self.refused(keeper, NoSpun, "put_stray", 1, odd, 3)
        for odd in ODD + (3, 4):
            self.refused(keeper, NoThread, "put_stray", 1, spun + 1, odd)
        self.refused(keeper, NoThread, "put_stray", 0, BIG, 2)
        keeper.put_stray(1, spun + 1, 2)
        self.refused(keeper, NoStray, "put_stray", 1, spun + 1, 2)
        keeper.put_stray(1, spun + 1, 1)

    def test_sixteen_strays(self):
        keeper = Keeper(TWO)
        for spun in range(20, 34):
            keeper.put_stray(0, spun, 0)
        self.assertEqual(len(keeper.yard()[5]), 16)
        self.refused(keeper, TooMany, "put_stray", 0, 50, 0)
        self.refused(keeper, NoStray, "put_stray", 0, 20, 0)
        self.refused(keeper, NoThread, "put_stray", 0, 20, 2)
        self.refused(keeper, NoSpun, "put_stray", 0, 0, 2)
        self.refused(keeper, NoFrame, "put_stray", 2, 0, 2)
        keeper.strike()
        keeper.put_stray(0, 50, 0)

    def test_spun_goes_by_deeds_that_stand(self):
        # the stray stops the frame for ever, and struck it doesn't
        keeper = Keeper(made([(0, 1, 0, 4, 0, ())]))
        keeper.put_stray(0, 5, 0)
        keeper.run(100)
        self.assertEqual(keeper.stands_now()[0][0][0], 5)
        keeper.put_stray(0, 6, 0)
        keeper.strike()
        keeper.strike()
        self.assertEqual(keeper.stands_now()[0][0][0], 100)
        self.refused(keeper, NoSpun, "put_stray", 0, 100, 0)
        keeper.put_stray(0, 101, 0)

    def test_strike(self):
        keeper = Keeper(TWO)
        self.refused(keeper, NoStrike, "strike")
        keeper.run(9)
        self.refused(keeper, NoStrike, "strike")
        keeper.come(0, (0,))
        keeper.run(40)
        keeper.put_stray(0, 1000, 1)
        keeper.go(0)
        for moment, left in ((41, 2), (10 ** 15, 1), (BIG, 0)):
            keeper.run(moment)
            self.assertIsNone(keeper.strike())
            wanted = (TWO, TWO[:4] + (TWO[4] + ((0, (0,), 9, None),), TWO[5]),
                      TWO[:4] + (TWO[4] + ((0, (0,), 9, None),), tuple(sorted(TWO[5] + ((0, 1000, 1),)))))[left]
            self.assertEqual(self.told(keeper), (wanted, moment, stands(wanted, moment)))
        self.refused(keeper, NoStrike, "strike")

    def test_what_is_refused_cannot_be_struck(self):
        keeper = Keeper(TWO)
        keeper.come(0, (0,))
        self.refused(keeper, NoHand, "go", 2)
        self.refused(keeper, NoMinds, "come", 0, (9,))
        keeper.strike()
        self.assertEqual(keeper.yard(), TWO)
        self.refused(keeper, NoStrike, "strike")

    def test_what_was_before_a_deed_stays(self):
        source = random.Random(41)
        for _ in range(15):
            asked = some_yard(source, far=60, longest=6, most_frames=2, most_hands=2)
            keeper = Keeper(asked)
            moment = source.randint(1, 40)
            keeper.run(moment)
            before = walked(asked, moment)
            some_deed(source, keeper)
            after = walked(keeper.yard(), moment)
            for one, two in zip(before, after):
                self.assertEqual((one[0], one[1], one[3]), (two[0], two[1], two[3]))
                self.assertEqual(one[2], two[2][:len(one[2])])

    def test_many_deeds_against_a_new_yard(self):
        source = random.Random(42)
        counts = {}
        for far in (30, 30, 30, 10 ** 12, BIG // 50):
            keeper = Keeper(some_yard(source, far=60, longest=5, most_frames=2, most_hands=2))
            kept = [keeper.yard()]
            for _ in range(40):
                keeper.run(min(BIG, keeper.moment() + source.choice((0, 1, source.randint(0, far)))))
                if source.random() < 0.25 and len(kept) > 1:
                    keeper.strike()
                    kept.pop()
                else:
                    word = some_deed(source, keeper)
                    counts[word] = counts.get(word, 0) + 1
                    if word is not None:
                        kept.append(keeper.yard())
                self.assertEqual(keeper.yard(), kept[-1])
                self.assertEqual(keeper.stands_now(), leapt(kept[-1], keeper.moment()))
            while len(kept) > 1:
                keeper.strike()
                kept.pop()
                self.assertEqual(keeper.yard(), kept[-1])
                self.assertEqual(keeper.stands_now(), leapt(kept[-1], keeper.moment()))
            self.refused(keeper, NoStrike, "strike")
        self.assertTrue(all(counts.get(word, 0) > 5 for word in ("come", "go", "put_stray")), counts)

    def test_two_keepers_of_one_yard_by_turns(self):
        one, two = Keeper(TWO), Keeper(TWO)
        one.run(10)
        one.come(0, (0,))
        self.assertEqual(self.told(two), (TWO, 0, stands(TWO, 0)))
        two.put_stray(1, 5, 1)
        two.run(25)
        self.assertEqual(one.yard()[5], TWO[5])
        self.assertEqual(one.moment(), 10)
        one.strike()
        self.assertEqual(two.yard()[5], tuple(sorted(TWO[5] + ((1, 5, 1),))))
        self.refused(one, NoStrike, "strike")
        two.strike()
        self.assertEqual(self.told(two), (TWO, 25, stands(TWO, 25)))

    def test_what_was_told_stays_as_it_was_told(self):
        handed = copy.deepcopy(TWO)
        keeper = Keeper(handed)
        told, kept = [], []
        for step in range(12):
            told.append(self.told(keeper))
            kept.append(copy.deepcopy(told[-1]))
            keeper.run(step * 3 + 1)
            (keeper.come(0, (0, 1)) if step % 3 else keeper.put_stray(0, 500 + step, 1))
            if step % 4 == 3:
                keeper.strike()
        self.assertEqual(told, kept)
        self.assertEqual(handed, TWO)


def some_deed(source, keeper):
    """Do some deed that isn't refused; return its word, None where none can be done."""
    frames, _, _, _, hands, strays = keeper.yard()
    now = keeper.moment()
    word = source.choice(("come", "go", "put_stray"))
    leave = [at for at, hand in enumerate(hands) if hand[2] < now and (hand[3] is None or hand[3] > now)]
    frame = source.randrange(len(frames))
    if word == "come" and len(hands) < 16:
        minds = tuple(sorted({source.randrange(len(frames)) for _ in range(2)}))
        keeper.come(frame, minds)
        return word
    if word == "go" and leave:
        keeper.go(source.choice(leave))
        return word
    spun = keeper.stands_now()[0][frame][0] + source.randint(1, 30)
    stray = (frame, spun, source.randrange(frames[frame][1]))
    if word == "put_stray" and len(strays) < 16 and spun <= BIG and stray not in strays:
        keeper.put_stray(*stray)
        return word
    return None


class Hands(unittest.TestCase):
    def test_a_hand_in_the_midst_of_a_thread_goes(self):
        keeper = Keeper(made([(0, 1, 0, 9, 0, ((1, 0),))], [ALWAYS], pieces=(5, 1)))
        keeper.run(3)
        keeper.go(0)
        keeper.run(50)
        self.assertEqual(keeper.stands_now(), (((1, 1, 0),), ((0, 0, 1),), (None,), (1, 0)))
        self.assertEqual(keeper.come(0, (0,)), 1)
        keeper.run(55)
        self.assertEqual(keeper.stands_now(), (((1, 1, 0),), (), (None, (0, None, 0)), (1, 0)))
        keeper.strike()
        self.assertEqual(keeper.stands_now(), (((1, 1, 0),), ((0, 0, 1),), (None,), (1, 0)))
        keeper.strike()
        self.assertEqual(keeper.stands_now()[1], ())


if __name__ == "__main__":
    unittest.main()
