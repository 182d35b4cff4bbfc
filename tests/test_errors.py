import unittest

from doffyard import errors

NAMES = ("NoYard", "NoFrame", "NoHand", "NoStray", "NoText", "NoMoment", "NoWait", "NoMany", "NoMinds", "NoSpun",
         "NoThread", "TooMany", "NoStrike", "NoPlain", "NoSmall", "NoStory", "NoCalls", "NoDoffs", "NoRow")


class Errors(unittest.TestCase):
    def test_the_base_stands_under_value_error(self):
        self.assertTrue(issubclass(errors.DoffError, ValueError))

    def test_each_stands_under_the_base_and_none_under_another(self):
        for name in NAMES:
            with self.subTest(name):
                refusal = getattr(errors, name)
                self.assertEqual(refusal.__bases__, (errors.DoffError,))
                self.assertEqual(refusal.__name__, name)
                self.assertEqual(refusal.__module__, "doffyard.errors")
                others = [getattr(errors, other) for other in NAMES if other != name]
                self.assertFalse(issubclass(refusal, tuple(others)))

    def test_there_are_no_others(self):
        found = {name for name, thing in vars(errors).items() if isinstance(thing, type)}
        self.assertEqual(found, set(NAMES) | {"DoffError"})

    def test_no_text_has_its_row(self):
        for row in (0, 7):
            try:
                raise errors.NoText(row)
            except ValueError as refusal:
                self.assertEqual(refusal.row, row)
                self.assertTrue(str(refusal))


if __name__ == "__main__":
    unittest.main()
