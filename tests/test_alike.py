"""3.1 and 3.2: alike, covered, TooGreat."""

import unittest

from enoughsaid.alike import parted, uncovered
from enoughsaid.errors import EnoughError, TooGreat
from enoughsaid.wishes import Both, Count, Either, Houses, Then, Weigh, holds, is_row
from tests.helper import FIVE, all_of, any_of, doc_holds, never, rows_of, some_wishes, told_fields


class Alike(unittest.TestCase):
    def alike(self, one, other):
        for tell in [parted, uncovered]:
            self.assertIsNone(tell(one, other))
            self.assertIsNone(tell(other, one))

    def part(self, one, other):
        for row in [parted(one, other), parted(other, one)]:
            self.assertTrue(is_row(row))
            self.assertNotEqual(holds(one, row), holds(other, row))

    def cover(self, one, other):
        """The one covers the other, and isn't covered by it."""
        self.assertIsNone(uncovered(one, other))
        row = uncovered(other, one)
        self.assertTrue(is_row(row))
        self.assertTrue(holds(one, row))
        self.assertFalse(holds(other, row))
        self.part(one, other)

    def test_alike(self):
        self.alike(Count(2, ["a", "b"]), all_of("b", "a"))
        self.alike(Count(2, ["a", "b", "c"]), Weigh(4, [("a", 2), ("b", 3), ("c", 2)]))
        self.alike(Houses(2, 1, [["a"], ["b"]]), Both([any_of("a"), any_of("b")]))
        self.alike(any_of("a", "b"), Either([any_of("b"), any_of("a")]))
        a, b, c = any_of("a"), any_of("b"), any_of("c")
        self.alike(Then(Then(a, b), c), Then(a, Then(b, c)))
        self.alike(Either([Then(a, b), Then(b, a)]), all_of("a", "b"))

    def test_alike_though_one_has_names_that_do_nothing(self):
        self.alike(any_of("a"), Either([any_of("a"), all_of("a", "b")]))
        self.alike(never(), Then(any_of("bob"), any_of("bob")))

    def test_parted(self):
        self.cover(any_of("a", "b"), all_of("a", "b"))
        self.cover(any_of("a"), Then(any_of("b"), any_of("a")))
        self.cover(any_of("bob"), never())
        self.part(any_of("a"), any_of("b"))

    def test_parted_by_the_order_alone(self):
        ab, ba = Then(any_of("a"), any_of("b")), Then(any_of("b"), any_of("a"))
        self.assertEqual(sorted(parted(ab, ba)), ["a", "b"])
        self.assertEqual(uncovered(ab, ba), ["b", "a"])
        self.assertEqual(uncovered(ba, ab), ["a", "b"])
        self.cover(all_of("a", "b"), ab)

    def test_parted_by_five_names_alone(self):
        four, five = Count(4, FIVE), Count(5, FIVE)
        self.cover(four, five)
        most = Both([five, Either([Then(all_of(*FIVE[:4]), any_of("eve")), never()])])
        self.cover(five, most)
        self.assertEqual(len(uncovered(most, five)), 5)

    def test_each_is_alike_with_itself(self):
        for wish in some_wishes(8, 20):
            self.alike(wish, wish)

    def test_as_the_document_says(self):
        wishes = some_wishes(9, 60)
        rows = rows_of(FIVE)
        for one, other in zip(wishes, wishes[1:]):
            held = [(doc_holds(one, row), doc_holds(other, row)) for row in rows]
            self.assertEqual(parted(one, other) is None, all(x == y for x, y in held))
            self.assertEqual(uncovered(one, other) is None, all(x or not y for x, y in held))
            self.assertEqual(uncovered(other, one) is None, all(y or not x for x, y in held))
            if parted(one, other) is not None:
                self.part(one, other)
            for big, small in [(one, other), (other, one)]:
                row = uncovered(big, small)
                if row is not None:
                    self.assertEqual((doc_holds(big, row), doc_holds(small, row)), (False, True))


class Refused(unittest.TestCase):
    def test_five_names_in_all_and_six(self):
        for one, other, many in [
            (any_of("a", "b", "c"), any_of("d", "e"), 5),
            (any_of("a", "b", "c"), any_of("c", "d", "e"), 5),
            (any_of(*FIVE), any_of(*FIVE), 5),
            (any_of("a", "b", "c"), any_of("d", "e", "f"), 6),
            (any_of("a", "b", "c", "d"), any_of("c", "d", "e", "f"), 6),
            (any_of(*FIVE), any_of("x"), 6),
            (any_of(*FIVE), any_of("v", "w", "x", "y", "z"), 10),
            (never(), Count(1, list("vwxyz")), 6),
        ]:
            for tell in [parted, uncovered]:
                for pair in [(one, other), (other, one)]:
                    if many == 5:
                        tell(*pair)
                        continue
                    with self.assertRaises(EnoughError) as caught:
                        tell(*pair)
                    self.assertIs(type(caught.exception), TooGreat)


class Kept(unittest.TestCase):
    def test_wishes_stay_and_rows_are_the_callers_own(self):
        one, other = Then(any_of("b"), any_of("a")), all_of("a", "b")
        before = told_fields(one), told_fields(other)
        for tell in [parted, uncovered]:
            told = tell(one, other)
            same = list(told)
            told.append("z")
            self.assertEqual(tell(one, other), same)
        self.assertEqual((told_fields(one), told_fields(other)), before)


if __name__ == "__main__":
    unittest.main()
