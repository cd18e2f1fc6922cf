import unittest

from dicesums import errors

UNDER = ["NoDie", "NoDice", "NoTotals", "NoNumber", "TooMany", "NoText", "NoSide", "NoRoll", "NoChoices",
         "Against", "Nothing"]


class ErrorsTest(unittest.TestCase):
    def test_dice_error_is_a_value_error(self):
        self.assertEqual(errors.DiceError.__bases__, (ValueError,))

    def test_each_other_stands_straight_under_dice_error(self):
        self.assertEqual(len(UNDER), 11)
        for name in UNDER:
            with self.subTest(name):
                self.assertEqual(getattr(errors, name).__bases__, (errors.DiceError,))
                self.assertEqual(getattr(errors, name).__name__, name)

    def test_none_stands_under_another(self):
        for one in UNDER:
            for other in UNDER:
                if one != other:
                    self.assertFalse(issubclass(getattr(errors, one), getattr(errors, other)))


if __name__ == "__main__":
    unittest.main()
