import copy
import unittest

from doffyard.yards import is_yard

BIG = 10 ** 30

FRAMES = ((0, 4, 3, 30, 9, ((1, 0), (1, 3), (30, 3))), (1, 1, 0, 1, 0, ()))
HANDS = ((1, (0, 1), 0, None), (0, (1,), 5, 6))
STRAYS = ((0, 1, 3), (0, BIG, 0), (1, 2, 0))
YARD = (FRAMES, ((0, 9), (0, 0)), (1, 9), "near", HANDS, STRAYS)


def put(thing, path, value):
    """The thing with the value at the path in place of what is there."""
    if not path:
        return value
    at = path[0]
    return thing[:at] + (put(thing[at], path[1:], value),) + thing[at + 1:]


def part(thing, path):
    for at in path:
        thing = thing[at]
    return thing


def paths(thing, path=()):
    """The paths to all parts of a thing, itself among them."""
    told = [path]
    if isinstance(thing, tuple):
        for at, inner in enumerate(thing):
            told += paths(inner, path + (at,))
    return told


def lone(**told):
    """A yard of one frame, with parts put in by name."""
    frame = tuple(told.get(name, usual) for name, usual in (
        ("sort", 0), ("threads", 2), ("most", 1), ("full", 5), ("doff", 1), ("rows", ())))
    return ((frame,), ((0,),), told.get("pieces", (1, 1)), told.get("rule", "old"),
            told.get("hands", ()), told.get("strays", ()))


class Odd:
    def __eq__(self, other):
        raise AssertionError("an odd thing was compared")

    __hash__ = None


class Yards(unittest.TestCase):
    def yes(self, thing):
        self.assertIs(is_yard(thing), True, thing)

    def no(self, thing):
        self.assertIs(is_yard(thing), False, thing)

    def test_a_yard(self):
        self.yes(YARD)
        self.yes(lone())

    def test_things_of_other_kinds(self):
        for thing in (None, True, False, 0, 7, -1, "", "near", b"", (), [], {}, set(), Odd(), len, object, list(YARD),
                      {0: YARD}, (YARD,), YARD[:5], YARD + ((),), (None,) * 6, ((),) * 6, "abcdef", (Odd(),) * 6):
            self.no(thing)

    def test_other_kinds_at_each_place(self):
        for path in paths(YARD):
            old = part(YARD, path)
            for odd in (True, False, None, "", "1", b"near", [], {}, (), -1, Odd(), (Odd(),), [1, 0], (None,)):
                if odd is None and path in ((4, 0, 3), (4, 1, 3)):
                    continue
                if isinstance(odd, tuple) and not odd and path in ((0, 0, 5), (0, 1, 5), (4,), (5,)):
                    continue
                with self.subTest(path=path, odd=odd):
                    self.no(put(YARD, path, odd))
            if isinstance(old, tuple):
                self.no(put(YARD, path, list(old)))
                self.no(put(YARD, path, dict(enumerate(old))))

    def test_truths_for_the_numbers_one_and_nought(self):
        for path in paths(YARD):
            old = part(YARD, path)
            if isinstance(old, int) and old in (0, 1):
                self.no(put(YARD, path, bool(old)))

    def test_tuples_too_long_and_too_short(self):
        free = ((0, 0, 5), (0, 1, 5), (4,), (5,), (4, 0, 1), (4, 1, 1))
        for path in paths(YARD):
            old = part(YARD, path)
            if isinstance(old, tuple) and path not in free and path != (0,):
                with self.subTest(path=path):
                    self.no(put(YARD, path, old[:-1]))
                    self.no(put(YARD, path, old + old[-1:]))

    def test_counts_of_frames(self):
        for many in range(7):
            walks = ((0,) * many,) * many
            yard = ((FRAMES[1],) * many, walks, (1, 1), "sort", (), ())
            self.assertIs(is_yard(yard), 1 <= many <= 4)
            self.no(put(yard, (1,), ((0,) * (many + 1),) * (many + 1)))

    def test_bounds_of_a_frame(self):
        for name, low, high in (("sort", 0, 1), ("most", 0, 1), ("full", 1, 30), ("doff", 0, 9)):
            for number in range(-2, 34):
                with self.subTest(name=name, number=number):
                    self.assertIs(is_yard(lone(**{name: number})), low <= number <= high)
        for threads in range(-1, 7):
            for most in range(-1, 7):
                asked = is_yard(lone(threads=threads, most=most))
                self.assertIs(asked, 1 <= threads <= 4 and 0 <= most < threads)

    def test_bounds_of_rows(self):
        for at in range(-1, 8):
            for thread in range(-1, 4):
                self.assertIs(is_yard(lone(rows=((at, thread),))), 1 <= at <= 5 and 0 <= thread <= 1)
        eight = tuple((at, thread) for at in (1, 2, 3, 4) for thread in (0, 1))
        self.yes(lone(rows=eight))
        self.no(lone(rows=eight + ((5, 0),)))

    def test_rows_rise(self):
        self.yes(lone(rows=((1, 1), (2, 0))))
        for rows in (((2, 0), (1, 1)), ((1, 1), (1, 0)), ((1, 1), (1, 1)), ((1, 0), (2, 0), (2, 0)), ((1, 0), "a")):
            self.no(lone(rows=rows))

    def test_walks(self):
        for walk in range(-1, 12):
            self.assertIs(is_yard(put(YARD, (1, 0, 1), walk)), 0 <= walk <= 9)
            self.assertIs(is_yard(put(YARD, (1, 1, 1), walk)), walk == 0)
        self.no(put(YARD, (1,), ((0, 1), (1,))))

    def test_pieces(self):
        for at in (0, 1):
            for piece in range(-1, 12):
                self.assertIs(is_yard(put(YARD, (2, at), piece)), 1 <= piece <= 9)

    def test_rules(self):
        for rule in ("near", "old", "sort"):
            self.yes(lone(rule=rule))
        for rule in ("", "Near", "old ", "far", "nea", b"old", None, 0, ("old",), ["old"]):
            self.no(lone(rule=rule))

    def test_counts_of_hands_and_strays(self):
        hand = (0, (0,), 0, None)
        self.yes(lone(hands=(hand,) * 16))
        self.no(lone(hands=(hand,) * 17))
        strays = tuple((0, spun, 0) for spun in range(1, 18))
        self.yes(lone(strays=strays[:16]))
        self.no(lone(strays=strays))

    def test_bounds_of_hands(self):
        for frame in range(-1, 4):
            self.assertIs(is_yard(put(YARD, (4, 0, 0), frame)), 0 <= frame <= 1)
        for first, last, good in ((0, None, True), (-1, None, False), (BIG, None, True), (BIG + 1, None, False),
                                  (0, 1, True), (0, 0, False), (7, 7, False), (7, 6, False), (7, 8, True),
                                  (BIG - 1, BIG, True), (BIG, BIG, False), (BIG, BIG + 1, False), (0, BIG, True),
                                  (0, BIG + 1, False), (None, 4, False), (0, -1, False)):
            self.assertIs(is_yard(lone(hands=((0, (0,), first, last),))), good, (first, last))

    def test_minds(self):
        for minds in ((0,), (1,), (0, 1)):
            self.yes(put(YARD, (4, 0, 1), minds))
        for minds in ((), (2,), (-1,), (-1, 0), (1, 0), (0, 0), (1, 1), (0, 1, 2), (0, 1, 1), 0, "0", [0], (None,)):
            self.no(put(YARD, (4, 0, 1), minds))

    def test_bounds_of_strays(self):
        for stray, good in (((0, 1, 0), True), ((0, 0, 0), False), ((0, BIG, 1), True), ((0, BIG + 1, 0), False),
                            ((0, 1, 2), False), ((0, 1, -1), False), ((1, 1, 0), False), ((-1, 1, 0), False)):
            self.assertIs(is_yard(lone(strays=(stray,))), good, stray)
        self.yes(put(YARD, (5,), ((0, 9, 3),)))
        self.no(put(YARD, (5,), ((1, 9, 3),)))

    def test_strays_rise(self):
        self.yes(lone(strays=((0, 3, 0), (0, 3, 1), (0, 4, 0))))
        for strays in (((0, 3, 0), (0, 3, 0)), ((0, 3, 1), (0, 3, 0)), ((0, 4, 0), (0, 3, 0))):
            self.no(lone(strays=strays))
        self.no(put(YARD, (5,), ((1, 2, 0), (0, 1, 3))))

    def test_nothing_is_changed(self):
        things = [YARD, list(YARD), [[1], {2: [3]}], {"a": [1]}]
        kept = copy.deepcopy(things)
        for thing in things:
            self.assertEqual(is_yard(thing), is_yard(thing))
        self.assertEqual(things, kept)


if __name__ == "__main__":
    unittest.main()
