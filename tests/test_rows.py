"""1.3 and 1.4: rows, when a wish holds by one, and by how many names of it first."""

import itertools
import unittest

from enoughsaid.errors import EnoughError, NoRow
from enoughsaid.wishes import Both, Count, Either, Houses, Then, Weigh, first_by, holds
from tests.helper import (FIVE, TWELVE, Sour, all_of, any_of, doc_first, doc_holds, never, odd_things, ring, rows_of,
                          some_wishes)


class Holds(unittest.TestCase):
    def tell(self, wish, row, first):
        self.assertEqual(first_by(wish, row), first, row)
        self.assertIs(holds(wish, row), first is not None, row)

    def test_count(self):
        wish = Count(2, ["a", "b", "c"])
        self.tell(wish, ["a"], None)
        self.tell(wish, ["a", "c"], 2)
        self.tell(wish, ["c", "b", "a"], 2)
        self.tell(Count(5, FIVE), FIVE[:4], None)
        self.tell(Count(5, FIVE), FIVE, 5)
        self.tell(Count(1, ["a"]), ["a"], 1)

    def test_weigh(self):
        wish = Weigh(5, [("a", 2), ("b", 3), ("c", 4)])
        self.tell(wish, ["c"], None)
        self.tell(wish, ["a", "b"], 2)
        self.tell(wish, ["c", "a"], 2)
        heavy = [(name, 10 ** 9) for name in FIVE]
        self.tell(Weigh(5 * 10 ** 9, heavy), FIVE[1:], None)
        self.tell(Weigh(5 * 10 ** 9, heavy), FIVE, 5)
        self.tell(Weigh(10 ** 9 + 1, [("a", 1), ("b", 10 ** 9)]), ["b"], None)
        self.tell(Weigh(10 ** 9 + 1, [("a", 1), ("b", 10 ** 9)]), ["b", "a"], 2)
        self.tell(Weigh(10 ** 9, [("a", 1), ("b", 10 ** 9)]), ["a", "b"], 2)

    def test_houses(self):
        wish = Houses(2, 2, [["a", "b", "c"], ["c", "d"], ["a", "e"]])
        self.tell(wish, ["a", "b"], None)
        self.tell(wish, ["a", "b", "d"], None)
        self.tell(wish, ["a", "b", "d", "c"], 4)
        self.tell(wish, ["a", "c", "d"], 3)
        self.tell(wish, ["e", "a", "c"], 3)
        self.tell(Houses(2, 1, [["a"], ["a"]]), ["a"], 1)

    def test_both_and_either(self):
        wishes = [all_of("a", "b"), any_of("c")]
        self.tell(Both(wishes), ["a", "b"], None)
        self.tell(Both(wishes), ["a", "c"], None)
        self.tell(Both(wishes), ["c", "b", "a"], 3)
        self.tell(Both(wishes), ["a", "b", "c"], 3)
        self.tell(Either(wishes), ["a"], None)
        self.tell(Either(wishes), ["a", "c", "b"], 2)
        self.tell(Either(wishes), ["a", "b", "c"], 2)
        self.tell(Both([any_of("a")]), ["a"], 1)
        self.tell(Either([any_of("a")]), ["a"], 1)

    def test_then(self):
        wish = Then(any_of("a"), any_of("b"))
        self.tell(wish, ["a", "b"], 2)
        self.tell(wish, ["b", "a"], None)
        self.tell(wish, ["a"], None)
        self.tell(wish, ["b"], None)

    def test_then_looks_at_the_first_place_alone(self):
        wish = Then(any_of("a", "b"), any_of("b"))
        self.tell(wish, ["a", "b"], 2)
        self.tell(wish, ["b", "a"], None)
        late = Then(all_of("a", "b"), any_of("c"))
        self.tell(late, ["c", "a", "b"], None)
        self.tell(late, ["a", "c", "b"], None)
        self.tell(late, ["a", "b", "c"], 3)
        self.tell(late, ["a", "x", "b", "y", "c", "z"], 5)

    def test_then_within_then(self):
        a, b, c = any_of("a"), any_of("b"), any_of("c")
        for wish in [Then(Then(a, b), c), Then(a, Then(b, c))]:
            self.tell(wish, ["a", "b", "c"], 3)
            for row in [["b", "a", "c"], ["a", "c", "b"], ["c", "a", "b"], ["c", "b", "a"], ["b", "c", "a"]]:
                self.tell(wish, row, None)
        inner = Then(Both([a, b]), Either([Then(c, any_of("d")), any_of("e")]))
        self.tell(inner, ["a", "b", "c", "d"], 4)
        self.tell(inner, ["b", "e", "a", "c"], None)
        self.tell(inner, ["c", "b", "a", "d", "e"], 5)

    def test_then_that_never_holds(self):
        for row in rows_of(["ann", "bob"]) + [TWELVE]:
            self.tell(never(), row, None)
            self.tell(Both([any_of("bob"), never()]), row, None)
            self.tell(Then(never(), any_of("bob")), row, None)

    def test_one_wish_in_several_places(self):
        two = Count(1, ["a", "b"])
        self.tell(Then(two, two), ["a"], None)
        self.tell(Then(two, two), ["a", "x", "b"], 3)
        self.tell(Both([two, two]), ["b"], 1)

    def test_names_that_the_wish_has_not(self):
        self.tell(any_of("a"), ["x", "y", "a", "z"], 3)
        self.tell(Then(any_of("a"), any_of("b")), ["b", "x", "a", "y"], None)
        self.tell(all_of(*FIVE), list(reversed(TWELVE)), 12)
        self.tell(all_of(*FIVE), TWELVE[1:], None)

    def test_more_than_twelve_names_are_not_refused(self):
        self.tell(any_of("n"), list("abcdefghijklmn"), 14)

    def test_no_wish_holds_by_the_empty_row(self):
        for wish in some_wishes(1, 100):
            self.tell(wish, [], None)

    def test_as_the_document_says(self):
        for wish in some_wishes(2, 120):
            for row in rows_of(FIVE):
                first = doc_first(wish, row)
                self.assertEqual(first_by(wish, row), first)
                self.assertIs(holds(wish, row), doc_holds(wish, row))
                # 1.4: the least number, and longer rows that begin so hold, too.
                self.assertEqual([holds(wish, row[:k]) for k in range(len(row) + 1)],
                                 [first is not None and k >= first for k in range(len(row) + 1)])

    def test_strangers_between_change_nothing(self):
        for wish in some_wishes(3, 40, ["ann", "bob", "cid"]):
            for row in itertools.permutations(["ann", "bob", "cid", "u", "v"]):
                row = list(row)
                self.assertEqual(first_by(wish, row), doc_first(wish, row))


class Refused(unittest.TestCase):
    def test_what_is_no_row(self):
        for wish in [any_of("a"), Then(any_of("a"), any_of("b")), Both([any_of("a")])]:
            for thing in odd_things() + [
                "a", "ab", 1, ("a",), any_of("a"), ["a", "b", "a"], ["a", "x", "x"], ["a", True], ["a", None],
                ["a", 1], ["a", ""], ["a", Sour()], ["a", ring()], ["a", ["b"]], ["a", "abcdefghi"],
            ]:
                for tell in [holds, first_by]:
                    with self.assertRaises(EnoughError) as caught:
                        tell(wish, thing)
                    self.assertIs(type(caught.exception), NoRow)

    def test_a_wrong_name_at_any_place(self):
        for place in range(12):
            for thing in [None, True, 1, "", "A", "abcdefghi", ["a"], ("a",), Sour(), TWELVE[place - 1]]:
                row = list(TWELVE)
                row[place] = thing
                for tell in [holds, first_by]:
                    with self.assertRaises(NoRow):
                        tell(any_of("ann", "bob"), row)

    def test_the_row_stays(self):
        for row in [["b", "x", "a"], []]:
            same = list(row)
            holds(Then(any_of("b"), any_of("a")), row)
            first_by(Then(any_of("b"), any_of("a")), row)
            self.assertEqual(row, same)


if __name__ == "__main__":
    unittest.main()
