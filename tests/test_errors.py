import unittest

from enoughsaid import errors

REFUSALS = ["NoWish", "NoRow", "TooGreat", "NoCost", "NoAnswer", "NoRule", "NoAsk", "NoTime", "NoBook", "NoText"]


class Errors(unittest.TestCase):
    def test_all_stand_straight_under_enough_error(self):
        self.assertEqual(errors.EnoughError.__bases__, (ValueError,))
        for name in REFUSALS:
            with self.subTest(name):
                self.assertEqual(getattr(errors, name).__bases__, (errors.EnoughError,))

    def test_none_stands_under_another_one(self):
        classes = [getattr(errors, name) for name in REFUSALS]
        for one in classes:
            for other in classes:
                self.assertEqual(issubclass(one, other), one is other)

    def test_each_is_raised_and_taken_as_a_value_error(self):
        for name in REFUSALS:
            with self.subTest(name), self.assertRaises(ValueError) as caught:
                raise getattr(errors, name)("words")
            self.assertIs(type(caught.exception), getattr(errors, name))

    def test_no_text_has_its_place(self):
        self.assertEqual(errors.NoText(0).at, 0)
        self.assertEqual(errors.NoText(17).at, 17)
        self.assertIsNone(errors.NoText(None).at)

    def test_no_text_shows_words(self):
        self.assertTrue(str(errors.NoText(3)))


if __name__ == "__main__":
    unittest.main()
