"""4.1 and 4.2: sets that can do, least sets, least blockers."""

import itertools
import random
import unittest

from enoughsaid.errors import EnoughError, NoRow
from enoughsaid.sets import can_do, least_blockers, least_sets
from enoughsaid.ways import can_hold, wanted, way
from enoughsaid.wishes import Both, Count, Either, Houses, Then, Weigh, first_by, holds
from tests.helper import (FIVE, TWELVE, Sour, all_of, any_of, doc_blockers, doc_can_do, doc_doers, doc_least, never,
                          odd_things, ring, sets_of, some_wishes, told_fields)


class CanDo(unittest.TestCase):
    def test_ordinary(self):
        two = Count(2, ["a", "b", "c"])
        for names, right in [([], False), (["b"], False), (["c", "a"], True), (["a", "c"], True), (["c", "b", "a"], True)]:
            self.assertIs(can_do(two, names), right, names)
        heavy = Weigh(5, [("a", 2), ("b", 3), ("c", 4)])
        for names, right in [(["c"], False), (["b", "a"], True), (["a", "c"], True)]:
            self.assertIs(can_do(heavy, names), right, names)

    def test_the_order_in_which_it_is_told_does_not_matter(self):
        wish = Then(any_of("a"), any_of("b"))
        self.assertIs(can_do(wish, ["b", "a"]), True)
        self.assertIs(can_do(wish, ["a", "b"]), True)

    def test_one_order_is_enough(self):
        wish = Then(any_of("a", "b"), all_of("b", "c"))
        self.assertIs(can_do(wish, ["c", "b", "a"]), True)
        self.assertIs(can_do(wish, ["c", "b"]), False)

    def test_names_that_the_wish_has_not(self):
        self.assertIs(can_do(any_of("a"), ["x", "a", "y"]), True)
        self.assertIs(can_do(any_of("a"), ["x", "y"]), False)
        self.assertIs(can_do(all_of(*FIVE), list(reversed(TWELVE))), True)
        self.assertIs(can_do(all_of(*FIVE), TWELVE[1:]), False)
        self.assertIs(can_do(all_of(*FIVE), FIVE + [name + "x" for name in TWELVE]), True)

    def test_nothing_can_make_it_hold(self):
        for names in sets_of(["ann", "bob"]) + [TWELVE]:
            self.assertIs(can_do(never(), names), False)

    def test_as_the_document_says(self):
        chance = random.Random(11)
        for wish in some_wishes(11, 60, FIVE[:4]):
            for some in sets_of(FIVE[:4] + ["x"]):
                chance.shuffle(some)
                self.assertIs(can_do(wish, some), doc_can_do(wish, some))


class LeastSets(unittest.TestCase):
    def test_leaves(self):
        self.assertEqual(least_sets(Count(2, ["c", "b", "a"])), [["a", "b"], ["a", "c"], ["b", "c"]])
        self.assertEqual(least_sets(Weigh(5, [("c", 5), ("b", 3), ("a", 2)])), [["c"], ["a", "b"]])
        self.assertEqual(least_sets(Houses(2, 1, [["a", "b"], ["c"], ["b", "d"]])), [["b"], ["a", "c"], ["a", "d"], ["c", "d"]])

    def test_others(self):
        a, b, c = any_of("a"), any_of("b"), any_of("c")
        self.assertEqual(least_sets(Both([a, b])), [["a", "b"]])
        self.assertEqual(least_sets(Either([c, all_of("a", "b"), all_of("b", "c")])), [["c"], ["a", "b"]])
        self.assertEqual(least_sets(Then(c, a)), [["a", "c"]])
        self.assertEqual(least_sets(Then(any_of("b", "a"), any_of("b"))), [["a", "b"]])

    def test_fewer_names_ahead_then_as_lists_are_ordered(self):
        wish = Either([all_of("a", "b", "c"), all_of("b", "e"), all_of("a", "e"), any_of("d")])
        self.assertEqual(least_sets(wish), [["d"], ["a", "e"], ["b", "e"], ["a", "b", "c"]])
        long = Either([any_of("z"), any_of("ab"), any_of("aa"), any_of("b"), any_of("abc")])
        self.assertEqual(least_sets(long), [["aa"], ["ab"], ["abc"], ["b"], ["z"]])

    def test_one_and_all(self):
        self.assertEqual(least_sets(any_of("a")), [["a"]])
        self.assertEqual(least_sets(all_of(*reversed(FIVE))), [FIVE])
        self.assertEqual(least_sets(any_of(*FIVE)), [[name] for name in FIVE])
        self.assertEqual(least_sets(Count(3, FIVE)), [list(some) for some in itertools.combinations(FIVE, 3)])

    def test_nothing_can_make_it_hold(self):
        for wish in [never(), Both([any_of("bob"), never()]), Then(any_of("bob", "cid"), all_of("bob", "cid"))]:
            self.assertEqual(least_sets(wish), [])

    def test_names_that_do_nothing_stand_in_none(self):
        self.assertEqual(least_sets(Either([any_of("a"), all_of("a", "b"), Then(any_of("c"), any_of("c"))])), [["a"]])

    def test_as_the_document_says(self):
        for wish in some_wishes(12, 150):
            self.assertEqual(least_sets(wish), doc_least(doc_doers(wish)))


class LeastBlockers(unittest.TestCase):
    def test_leaves(self):
        self.assertEqual(least_blockers(Count(2, ["c", "b", "a"])), [["a", "b"], ["a", "c"], ["b", "c"]])
        self.assertEqual(least_blockers(Count(1, ["b", "a"])), [["a", "b"]])
        self.assertEqual(least_blockers(Weigh(5, [("c", 5), ("b", 3), ("a", 2)])), [["a", "c"], ["b", "c"]])

    def test_others(self):
        a, b = any_of("a"), any_of("b")
        self.assertEqual(least_blockers(Both([b, a])), [["a"], ["b"]])
        self.assertEqual(least_blockers(Either([b, a])), [["a", "b"]])
        self.assertEqual(least_blockers(Then(b, a)), [["a"], ["b"]])

    def test_fewer_names_ahead_then_as_lists_are_ordered(self):
        wish = Both([any_of("a", "b", "c"), any_of("b", "e"), any_of("a", "e"), any_of("d")])
        self.assertEqual(least_blockers(wish), [["d"], ["a", "e"], ["b", "e"], ["a", "b", "c"]])

    def test_one_and_all(self):
        self.assertEqual(least_blockers(any_of("a")), [["a"]])
        self.assertEqual(least_blockers(any_of(*reversed(FIVE))), [FIVE])
        self.assertEqual(least_blockers(all_of(*FIVE)), [[name] for name in FIVE])

    def test_nothing_can_make_it_hold(self):
        for wish in [never(), Both([any_of("bob"), never()]), Then(any_of("bob", "cid"), all_of("bob", "cid"))]:
            self.assertEqual(least_blockers(wish), [[]])

    def test_as_the_document_says(self):
        for wish in some_wishes(13, 150):
            self.assertEqual(least_blockers(wish), doc_least(doc_blockers(wish)))

    def test_each_least_set_has_a_name_in_common_with_each(self):
        for wish in some_wishes(14, 60):
            for some in least_sets(wish):
                for blocker in least_blockers(wish):
                    self.assertTrue(set(some) & set(blocker))


class Refused(unittest.TestCase):
    def refuse(self, tell, *handed):
        with self.assertRaises(EnoughError) as caught:
            tell(*handed)
        self.assertIs(type(caught.exception), NoRow)
        self.assertIsInstance(caught.exception, ValueError)

    def test_what_is_no_set(self):
        for wish in [any_of("a"), Then(any_of("a"), any_of("b")), never()]:
            for thing in odd_things() + [
                "a", "ab", 1, ("a",), any_of("a"), ["a", "b", "a"], ["a", "x", "x"], ["a", True], ["a", None],
                ["a", 1], ["a", ""], ["a", Sour()], ["a", ring()], ["a", ["b"]], ["a", "abcdefghi"], {"a": True},
            ]:
                self.refuse(can_do, wish, thing)

    def test_a_wrong_name_at_any_place(self):
        for place in range(12):
            for thing in [None, True, 1, "", "A", "abcdefghi", ["a"], ("a",), Sour(), TWELVE[place - 1]]:
                wrong = list(TWELVE)
                wrong[place] = thing
                self.refuse(can_do, any_of("ann"), wrong)

    def test_by_each_function_that_is_handed_one(self):
        wish = any_of("a")
        for thing in odd_things():
            self.refuse(can_do, wish, thing)
            self.refuse(holds, wish, thing)
            self.refuse(first_by, wish, thing)
            for tell in [can_hold, way, wanted]:
                self.refuse(tell, wish, thing, [])
                self.refuse(tell, wish, [], thing)


class Kept(unittest.TestCase):
    def test_what_is_handed_in_stays(self):
        wish = Then(any_of("b", "c"), any_of("a"))
        before = told_fields(wish)
        names = ["z", "c", "a"]
        can_do(wish, names)
        least_sets(wish)
        least_blockers(wish)
        self.assertEqual(names, ["z", "c", "a"])
        self.assertEqual(told_fields(wish), before)

    def test_what_is_told_is_the_callers_own(self):
        for tell in [least_sets, least_blockers]:
            for wish in [Count(2, ["a", "b", "c"]), any_of("a"), Then(any_of("a"), any_of("b"))]:
                told = tell(wish)
                same = [list(some) for some in told]
                self.assertEqual(len({id(some) for some in told}), len(told))
                told[0].append("z")
                told.append(["y"])
                self.assertEqual(tell(wish), same)
        told = least_blockers(never())
        told[0].append("z")
        self.assertEqual(least_blockers(never()), [[]])
        least_sets(never()).append(["a"])
        self.assertEqual(least_sets(never()), [])

    def test_kinds_of_what_is_told(self):
        for tell in [least_sets, least_blockers]:
            told = tell(Count(2, ["a", "b", "c"]))
            self.assertIs(type(told), list)
            self.assertTrue(all(type(some) is list for some in told))


if __name__ == "__main__":
    unittest.main()
