"""6.1: values put together by a rule."""

import itertools
import random
import unittest

from enoughsaid.errors import EnoughError, NoRule
from enoughsaid.rules import together
from tests.helper import odd_things

RULES = ["most", "newest", "least", "greatest", "middle"]
NINES = 999999999


def doc_together(rule, told):
    """6.1, word for word."""
    values = sorted(value for value, stamp in told)
    if not told:
        return None
    if rule == "most":
        often = max(values.count(value) for value in values)
        return min(value for value in values if values.count(value) == often)
    if rule == "newest":
        last = max(stamp for value, stamp in told)
        return max(value for value, stamp in told if stamp == last)
    return {"least": values[0], "greatest": values[-1], "middle": values[(len(values) - 1) // 2]}[rule]


class Together(unittest.TestCase):
    def tell(self, told, *values):
        """values: those by most, newest, least, greatest and middle, in whatever order the pairs stand."""
        for rule, value in zip(RULES, values):
            for pairs in itertools.permutations(told):
                self.assertEqual(together(rule, list(pairs)), value, (rule, pairs))

    def test_none(self):
        for rule in RULES:
            self.assertIsNone(together(rule, []))

    def test_one(self):
        for value in [0, 5, NINES]:
            for stamp in [0, 3, NINES]:
                self.tell([(value, stamp)], *[value] * 5)

    def test_two(self):
        self.tell([(3, 9), (8, 2)], 3, 3, 3, 8, 3)
        self.tell([(3, 2), (8, 9)], 3, 8, 3, 8, 3)

    def test_equal_values(self):
        self.tell([(4, 1), (4, 2), (4, 2)], 4, 4, 4, 4, 4)
        self.tell([(9, 1), (2, 7), (9, 3)], 9, 2, 2, 9, 9)
        self.tell([(0, 1), (0, 2), (7, 0), (7, 5)], 0, 7, 0, 7, 0)

    def test_equal_stamps(self):
        self.tell([(4, 5), (6, 5), (9, 1)], 4, 6, 4, 9, 6)
        self.tell([(4, 0), (6, 0), (5, 0)], 4, 6, 4, 6, 5)

    def test_most_of_several_is_the_least(self):
        self.tell([(8, 0), (8, 1), (3, 2), (3, 3), (1, 4)], 3, 1, 1, 8, 3)
        self.tell([(8, 0), (8, 1), (8, 2), (3, 2), (3, 3)], 8, 3, 3, 8, 8)

    def test_middle_of_an_even_and_an_odd_number(self):
        self.tell([(1, 0), (2, 0), (3, 0), (4, 0)], 1, 4, 1, 4, 2)
        self.tell([(1, 0), (2, 0), (3, 0), (4, 0), (5, 0)], 1, 5, 1, 5, 3)
        self.tell([(10, 0), (9, 0), (100, 0)], 9, 100, 9, 100, 10)

    def test_the_value_is_told_and_not_the_stamp(self):
        self.tell([(0, NINES), (NINES, 0)], 0, 0, 0, NINES, 0)

    def test_nought_is_a_value(self):
        self.tell([(0, 0)], 0, 0, 0, 0, 0)
        self.assertIsNotNone(together("least", [(0, 0), (1, 1)]))

    def test_as_the_document_says(self):
        chance = random.Random(31)
        for k in range(400):
            told = [(chance.choice([0, 1, 2, 3, NINES]), chance.randint(0, 3)) for k in range(chance.randint(1, 7))]
            for rule in RULES:
                self.assertEqual(together(rule, told), doc_together(rule, told), (rule, told))


class Refused(unittest.TestCase):
    def test_what_is_no_rule(self):
        for thing in odd_things() + [
            1, "MOST", "Most", " most", "most ", "mos", "mosts", "latest", "mean", "max", "newest\n", ["most"], ("most",),
            {"most": 1}, {"most"}, b"most", "least greatest", "most_often", "all",
        ]:
            for told in [[], [(1, 2)], [(1, 2), (3, 4)]]:
                with self.assertRaises(EnoughError) as caught:
                    together(thing, told)
                self.assertIs(type(caught.exception), NoRule)
                self.assertIsInstance(caught.exception, ValueError)
                self.assertIn(told, [[], [(1, 2)], [(1, 2), (3, 4)]])


class Kept(unittest.TestCase):
    def test_what_is_handed_in_stays(self):
        for rule in RULES:
            told = [(3, 1), (1, 3), (2, 2), (3, 0)]
            value = together(rule, told)
            self.assertEqual(told, [(3, 1), (1, 3), (2, 2), (3, 0)])
            told.append((0, 9))
            told[0] = (7, 7)
            self.assertEqual(together(rule, [(3, 1), (1, 3), (2, 2), (3, 0)]), value)


if __name__ == "__main__":
    unittest.main()
