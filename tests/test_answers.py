"""5.1 and 5.2: answers, seals, true and false."""

import unittest

from enoughsaid.answers import Answer, is_true, seal_of
from enoughsaid.errors import EnoughError, NoAnswer
from tests.helper import Sour, any_of, odd_things, wrong_numbers

NINES = 999999999
BOUND = 1000003
FIELDS = ["name", "ask", "value", "stamp", "seal"]


def fields(answer):
    return tuple(getattr(answer, field) for field in FIELDS)


class Made(unittest.TestCase):
    def test_fields(self):
        for handed in [
            ("ann", 1, 2, 3, 4), ("a", 0, 0, 0, 0), ("abcdefgh", NINES, NINES, NINES, NINES), ("z", 7, None, 5, 6),
            ("b", 0, None, 0, 0), ("c", 10 ** 40, 10 ** 40, 10 ** 40, 10 ** 40), ("d", 1, 2, 3, BOUND), ("none", 5, 4, 3, 2),
        ]:
            answer = Answer(*handed)
            self.assertEqual(fields(answer), handed)
            self.assertEqual(sorted(vars(answer)), sorted(FIELDS))

    def test_a_no_is_none_and_not_0(self):
        self.assertIsNone(Answer("a", 1, None, 1, 1).value)
        self.assertEqual(Answer("a", 1, 0, 1, 1).value, 0)

    def test_a_false_one_is_an_answer_too(self):
        self.assertIs(is_true(Answer("a", 1, 1, 1, 0), 1), False)


class Refused(unittest.TestCase):
    def refuse(self, *handed):
        with self.assertRaises(EnoughError) as caught:
            Answer(*handed)
        self.assertIs(type(caught.exception), NoAnswer)
        self.assertIsInstance(caught.exception, ValueError)

    def test_name(self):
        for thing in odd_things() + [1, ["a"], ("a",), any_of("a"), "a ", " a", "a~"]:
            self.refuse(thing, 1, 2, 3, 4)
            self.refuse(thing, 1, None, 3, 4)

    def test_numbers(self):
        for thing in wrong_numbers():
            self.refuse("a", thing, 2, 3, 4)
            self.refuse("a", 1, 2, thing, 4)
            self.refuse("a", 1, 2, 3, thing)
            self.refuse("a", thing, None, 3, 4)
            if thing is not None:
                self.refuse("a", 1, thing, 3, 4)

    def test_none_stands_for_a_value_alone(self):
        self.refuse(None, 1, 2, 3, 4)
        self.refuse("a", None, 2, 3, 4)
        self.refuse("a", 1, 2, None, 4)
        self.refuse("a", 1, 2, 3, None)

    def test_truths(self):
        for truth in [True, False]:
            for place in range(1, 5):
                handed = ["a", 1, 1, 1, 1]
                handed[place] = truth
                self.refuse(*handed)

    def test_all_otherwise(self):
        for thing in odd_things() + [Sour()]:
            self.refuse(thing, thing, thing, thing, thing)


class Seals(unittest.TestCase):
    def test_by_hand(self):
        for key, ask, value, stamp, seal in [
            (1, 0, None, 0, 1),
            (1, 0, 0, 0, 1010),
            (1, 5, None, 0, 6),
            (1, 0, None, 2, 63),
            (1, 2, 3, 4, 4163),
            (2, 2, 3, 4, 8326),
            (7, 1, 10, 100, 99407),
            (1000002, 0, None, 0, 1000002),
            (1000002, 0, 0, 0, 998993),
            (1000002, 2, 3, 4, 995840),
            (500002, 1, None, 0, 1),
        ]:
            self.assertEqual(seal_of(key, ask, value, stamp), seal, (key, ask, value, stamp))

    def test_a_no_and_the_value_0(self):
        for key in [1, 17, 1000002]:
            self.assertNotEqual(seal_of(key, 3, None, 5), seal_of(key, 3, 0, 5))

    def test_what_is_left_over(self):
        self.assertEqual(seal_of(1, BOUND - 1, None, 0), 0)
        self.assertEqual(seal_of(1, BOUND - 2, None, 0), BOUND - 1)
        self.assertEqual(seal_of(1, BOUND, None, 0), 1)
        self.assertEqual(seal_of(1, 0, BOUND - 1, 0), 1)
        self.assertEqual(seal_of(1, 0, None, BOUND), 1)

    def test_as_the_document_says(self):
        numbers = [0, 1, 2, 30, 1009, 999999, BOUND, NINES]
        for key in [1, 2, 31, 1009, 123456, 1000001, 1000002]:
            for ask in numbers:
                for stamp in numbers:
                    for value in numbers + [None]:
                        v = 0 if value is None else value + 1
                        self.assertEqual(seal_of(key, ask, value, stamp), divmod(key * (1 + ask + 1009 * v + 31 * stamp), BOUND)[1])


class TrueOrFalse(unittest.TestCase):
    def test_true(self):
        for key in [1, 2, 999, 1000002]:
            for ask in [0, 1, NINES]:
                for value in [None, 0, 1, NINES]:
                    for stamp in [0, 1, NINES]:
                        answer = Answer("ann", ask, value, stamp, seal_of(key, ask, value, stamp))
                        self.assertIs(is_true(answer, key), True)

    def test_each_thing_otherwise(self):
        for key in [1, 345, 1000002]:
            for ask, value, stamp in [(3, 4, 5), (0, 0, 0), (3, None, 5)]:
                seal = seal_of(key, ask, value, stamp)
                self.assertIs(is_true(Answer("a", ask + 1, value, stamp, seal), key), False)
                self.assertIs(is_true(Answer("a", ask, 9, stamp, seal), key), False)
                self.assertIs(is_true(Answer("a", ask, value, stamp + 1, seal), key), False)
                self.assertIs(is_true(Answer("a", ask, value, stamp, seal + 1), key), False)
                self.assertIs(is_true(Answer("a", ask, value, stamp, seal), key % 1000002 + 1), False)

    def test_a_no_for_0_and_0_for_a_no(self):
        no, nought = seal_of(5, 1, None, 2), seal_of(5, 1, 0, 2)
        self.assertIs(is_true(Answer("a", 1, None, 2, no), 5), True)
        self.assertIs(is_true(Answer("a", 1, 0, 2, nought), 5), True)
        self.assertIs(is_true(Answer("a", 1, 0, 2, no), 5), False)
        self.assertIs(is_true(Answer("a", 1, None, 2, nought), 5), False)

    def test_a_seal_beyond_what_can_be_left_over(self):
        seal = seal_of(5, 1, 1, 1)
        self.assertIs(is_true(Answer("a", 1, 1, 1, seal + BOUND), 5), False)

    def test_nothing_hangs_on_the_name(self):
        for name in ["a", "zed"]:
            self.assertIs(is_true(Answer(name, 1, 1, 1, seal_of(5, 1, 1, 1)), 5), True)

    def test_the_answer_stays(self):
        answer = Answer("a", 1, 2, 3, 4)
        is_true(answer, 5)
        self.assertEqual(fields(answer), ("a", 1, 2, 3, 4))


if __name__ == "__main__":
    unittest.main()
