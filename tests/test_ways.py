"""2.1 to 2.4: what can still come."""

import random
import unittest

from enoughsaid.errors import EnoughError, NoRow
from enoughsaid.wishes import Both, Count, Either, Houses, Then, Weigh, holds
from enoughsaid.ways import can_hold, wanted, way
from tests.helper import (FIVE, TWELVE, Sour, all_of, any_of, doc_wanted, doc_ways, never, odd_things, ring,
                          some_wishes, told_fields)


class Ways(unittest.TestCase):
    def tell(self, wish, row, out, many, names):
        """many: how long a shortest way is, None where there is none; names: the wanted ones."""
        told = way(wish, row, out)
        if many is None:
            self.assertIsNone(told)
        else:
            self.assertIs(type(told), list)
            self.assertEqual(len(told), many)
            self.assertEqual(len(set(told)), many)
            self.assertTrue(set(told) <= set(out))
            self.assertTrue(holds(wish, row + told))
        self.assertIs(can_hold(wish, row, out), many is not None)
        self.assertEqual(wanted(wish, row, out), names)

    def test_count(self):
        wish = Count(2, ["a", "b", "c"])
        self.tell(wish, [], ["c", "b", "a"], 2, ["a", "b", "c"])
        self.tell(wish, ["b"], ["c", "a"], 1, ["a", "c"])
        self.tell(wish, ["b"], ["a"], 1, ["a"])
        self.tell(wish, ["b"], [], None, [])
        self.tell(wish, [], ["a"], None, [])

    def test_weigh(self):
        wish = Weigh(10, [("a", 9), ("b", 1), ("c", 10)])
        self.tell(wish, [], ["a", "b", "c"], 1, ["a", "b", "c"])
        self.tell(wish, [], ["a", "b"], 2, ["a", "b"])
        self.tell(wish, ["a"], ["b", "c"], 1, ["b", "c"])
        self.tell(Weigh(4, [("a", 2), ("b", 2), ("c", 1)]), [], ["c", "b", "a"], 2, ["a", "b"])

    def test_houses(self):
        wish = Houses(2, 1, [["a"], ["a", "b"], ["c"]])
        self.tell(wish, [], ["c", "b", "a"], 1, ["a", "b", "c"])
        self.tell(wish, ["b"], ["c", "a"], 1, ["a", "c"])
        self.tell(wish, [], ["b"], None, [])

    def test_holds_already(self):
        self.tell(any_of("a", "b"), ["a"], ["b", "x"], 0, [])
        self.tell(Then(any_of("a"), any_of("b")), ["a", "b"], ["c"], 0, [])

    def test_then_too_late(self):
        wish = Then(any_of("a"), any_of("b"))
        self.tell(wish, [], ["b", "a"], 2, ["a", "b"])
        self.assertEqual(way(wish, [], ["b", "a"]), ["a", "b"])
        self.tell(wish, ["b"], ["a"], None, [])
        self.tell(wish, ["a"], ["b"], 1, ["b"])
        self.tell(wish, [], ["a"], None, [])

    def test_then_by_order_alone(self):
        wish = Then(any_of("a", "b"), any_of("b"))
        self.assertEqual(way(wish, [], ["b", "a"]), ["a", "b"])
        self.tell(wish, ["b"], ["a"], None, [])

    def test_not_wanted_where_another_is_enough(self):
        wish = Either([any_of("a"), all_of("a", "b")])
        self.tell(wish, [], ["b", "a"], 1, ["a"])
        self.tell(Both([any_of("a", "b"), any_of("a")]), [], ["b", "a"], 1, ["a"])

    def test_wanted_though_not_on_a_shortest_way(self):
        wish = Either([any_of("a"), all_of("b", "c", "d")])
        self.tell(wish, [], ["d", "c", "b", "a"], 1, ["a", "b", "c", "d"])

    def test_nothing_can_make_it_hold(self):
        self.tell(never(), [], ["ann", "bob"], None, [])
        self.tell(Both([any_of("bob"), never()]), [], ["ann", "bob"], None, [])
        self.tell(Either([any_of("bob"), never()]), [], ["ann", "bob"], 1, ["bob"])

    def test_nothing_out(self):
        self.tell(any_of("a"), [], [], None, [])
        self.tell(any_of("a"), ["a"], [], 0, [])

    def test_names_that_the_wish_has_not(self):
        self.tell(any_of("a"), ["x"], ["z", "a", "y"], 1, ["a"])
        self.tell(any_of("a"), ["x"], ["z", "y"], None, [])

    def test_outs_and_rows_of_twelve(self):
        wish = Then(all_of("ann", "bob"), all_of("cid", "dan", "eve"))
        self.tell(wish, [], TWELVE, 5, FIVE)
        others = list("abcdefghijkl")
        self.tell(wish, others, TWELVE, 5, FIVE)
        self.tell(wish, TWELVE, others, 0, [])
        self.tell(wish, TWELVE[::-1], others, None, [])
        self.tell(wish, list("abcdefghijklm"), TWELVE + ["o"], 5, FIVE)

    def test_as_the_document_says(self):
        chance = random.Random(4)
        for wish in some_wishes(5, 150):
            names = chance.sample(FIVE + ["u"], 6)
            cut = chance.randint(0, 3)
            row, out = names[:cut], names[cut:chance.randint(cut, 6)][:4]
            ways = doc_ways(wish, row, out)
            self.tell(wish, row, out, len(ways[0]) if ways else None, doc_wanted(wish, row, out))

    def test_five_out_as_the_document_says(self):
        for wish in some_wishes(6, 25):
            ways = doc_ways(wish, [], FIVE)
            self.tell(wish, [], FIVE, len(ways[0]) if ways else None, doc_wanted(wish, [], FIVE))

    def test_who_is_not_wanted_changes_nothing(self):
        for wish in some_wishes(7, 25, FIVE[:4]):
            names = wanted(wish, [], FIVE[:4])
            for some in doc_ways(wish, [], FIVE[:4]):
                self.assertTrue(holds(wish, [name for name in some if name in names]))


class Refused(unittest.TestCase):
    def refuse(self, row, out):
        for tell in [can_hold, way, wanted]:
            with self.assertRaises(EnoughError) as caught:
                tell(any_of("a", "b"), row, out)
            self.assertIs(type(caught.exception), NoRow)

    def test_what_is_no_row_and_no_out(self):
        for thing in odd_things() + [
            "x", 1, ("x",), any_of("a"), ["x", "y", "x"], ["x", True], ["x", None], ["x", Sour()], ["x", ring()],
        ]:
            self.refuse(thing, [])
            self.refuse(thing, ["b"])
            self.refuse([], thing)
            self.refuse(["a"], thing)
            self.refuse(thing, thing)

    def test_a_name_that_stands_in_both(self):
        self.refuse(["a"], ["a"])
        self.refuse(["x"], ["x"])
        for place in range(3):
            for other in range(3):
                row, out = ["a", "b", "x"], ["c", "d", "y"]
                out[other] = row[place]
                self.refuse(row, out)

    def test_a_wrong_name_at_any_place(self):
        for place in range(12):
            for thing in [None, True, 1, "", "A", "abcdefghi", ["a"], ("a",), Sour(), TWELVE[place - 1]]:
                wrong = list(TWELVE)
                wrong[place] = thing
                self.refuse(wrong, [])
                self.refuse([], wrong)

    def test_refused_where_it_holds_already(self):
        self.refuse(["a"], ["x", "x"])
        self.refuse(["a", "b"], ("c",))


class Kept(unittest.TestCase):
    def test_what_is_handed_in_stays(self):
        wish = Then(any_of("b", "c"), any_of("a"))
        before = told_fields(wish)
        row, out = ["x", "c"], ["z", "b", "a"]
        for tell in [can_hold, way, wanted]:
            tell(wish, row, out)
            self.assertEqual((row, out), (["x", "c"], ["z", "b", "a"]))
        self.assertEqual(told_fields(wish), before)

    def test_what_is_told_is_the_callers_own(self):
        wish = all_of("a", "b")
        row, out = [], ["b", "a"]
        for tell in [way, wanted]:
            told = tell(wish, row, out)
            same = list(told)
            told.append("z")
            self.assertEqual(tell(wish, row, out), same)
            self.assertEqual((row, out), ([], ["b", "a"]))
        done = way(wish, ["a", "b"], [])
        done.append("z")
        self.assertEqual(way(wish, ["a", "b"], []), [])
        full = ["a"]
        told = wanted(any_of("a"), [], full)
        self.assertIsNot(told, full)


if __name__ == "__main__":
    unittest.main()
