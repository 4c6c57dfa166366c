"""4.3 and 4.4: the cheapest set, and papers that a set is cheapest."""

import itertools
import random
import unittest

from enoughsaid.costs import cheap_paper, cheap_right, cheapest
from enoughsaid.errors import EnoughError, NoCost
from enoughsaid.sets import least_blockers
from enoughsaid.wishes import Both, Count, Either, Then, Weigh, is_whole
from tests.helper import (FIVE, Sour, all_of, any_of, doc_blockers, doc_doers, doc_paper, never, odd_things, ring,
                          rows_of, some_wishes, told_fields, wrong_numbers)

NINES = 999999999


def some_costs(chance, names):
    return {name: chance.choice([0, 0, 1, 1, 2, 3, 7, NINES]) for name in names}


def doc_cheapest(wish, costs):
    told = [(sum(costs[name] for name in some), len(some), some) for some in doc_doers(wish)]
    return (min(told)[0], min(told)[2]) if told else None


class Cheapest(unittest.TestCase):
    def test_ordinary(self):
        two = Count(2, ["a", "b", "c"])
        self.assertEqual(cheapest(two, {"a": 5, "b": 2, "c": 4}), (6, ["b", "c"]))
        self.assertEqual(cheapest(two, {"c": 4, "b": 2, "a": 1}), (3, ["a", "b"]))
        wish = Either([any_of("a"), all_of("b", "c")])
        self.assertEqual(cheapest(wish, {"a": 5, "b": 2, "c": 2}), (4, ["b", "c"]))
        self.assertEqual(cheapest(wish, {"a": 3, "b": 2, "c": 2}), (3, ["a"]))
        self.assertEqual(cheapest(Then(any_of("b"), any_of("a")), {"a": 1, "b": 2}), (3, ["a", "b"]))
        self.assertEqual(cheapest(any_of("a"), {"a": 7}), (7, ["a"]))

    def test_of_equal_sums_the_fewest_names(self):
        wish = Either([any_of("c"), all_of("a", "b")])
        self.assertEqual(cheapest(wish, {"a": 1, "b": 2, "c": 3}), (3, ["c"]))
        self.assertEqual(cheapest(wish, {"a": 0, "b": 0, "c": 0}), (0, ["c"]))
        self.assertEqual(cheapest(wish, {"a": 1, "b": 1, "c": 3}), (2, ["a", "b"]))

    def test_of_equal_sums_and_as_many_names_the_first_list(self):
        self.assertEqual(cheapest(any_of("c", "b", "a"), {"c": 4, "b": 4, "a": 4}), (4, ["a"]))
        two = Count(2, ["d", "c", "b", "a"])
        self.assertEqual(cheapest(two, {"d": 1, "c": 2, "b": 2, "a": 3}), (3, ["b", "d"]))
        self.assertEqual(cheapest(two, {"a": 3, "b": 1, "c": 2, "d": 0}), (1, ["b", "d"]))
        wish = Either([all_of("a", "d"), all_of("b", "c")])
        self.assertEqual(cheapest(wish, {"a": 1, "b": 1, "c": 1, "d": 1}), (2, ["a", "d"]))

    def test_a_name_for_nothing_is_not_put_in(self):
        self.assertEqual(cheapest(any_of("a", "b"), {"a": 0, "b": 0}), (0, ["a"]))
        self.assertEqual(cheapest(Count(2, ["a", "b", "c"]), {"a": 0, "b": 3, "c": 0}), (0, ["a", "c"]))
        self.assertEqual(cheapest(Either([any_of("b"), all_of("a", "b")]), {"a": 0, "b": 5}), (5, ["b"]))

    def test_nine_figures(self):
        self.assertEqual(cheapest(all_of(*FIVE), {name: NINES for name in FIVE}), (5 * NINES, FIVE))
        wish = Either([any_of("a"), all_of("b", "c")])
        self.assertEqual(cheapest(wish, {"a": NINES, "b": NINES - 1, "c": 1}), (NINES, ["a"]))
        self.assertEqual(cheapest(wish, {"a": NINES, "b": NINES - 1, "c": 0}), (NINES - 1, ["b", "c"]))

    def test_all_alike(self):
        wish = Weigh(5, [("a", 2), ("b", 3), ("c", 1), ("d", 4), ("e", 1)])
        self.assertEqual(cheapest(wish, {name: 1 for name in "abcde"}), (2, ["a", "b"]))

    def test_nothing_can_make_it_hold(self):
        self.assertIsNone(cheapest(never(), {"ann": 1}))
        self.assertIsNone(cheapest(Both([any_of("bob"), never()]), {"ann": 0, "bob": 0}))

    def test_kinds_of_what_is_told(self):
        told = cheapest(any_of("a"), {"a": 0})
        self.assertIs(type(told), tuple)
        self.assertIs(type(told[1]), list)
        self.assertTrue(is_whole(told[0]))

    def test_as_the_document_says(self):
        chance = random.Random(21)
        for wish in some_wishes(21, 150):
            for k in range(3):
                costs = some_costs(chance, wish.names_in())
                self.assertEqual(cheapest(wish, costs), doc_cheapest(wish, costs))


class Papers(unittest.TestCase):
    def test_told_with_the_least_sum_and_right(self):
        chance = random.Random(22)
        for wish in some_wishes(22, 120):
            costs = some_costs(chance, wish.names_in())
            paper, found = cheap_paper(wish, costs), doc_cheapest(wish, costs)
            if found is None:
                self.assertIsNone(paper)
                continue
            self.assertIs(type(paper), tuple)
            self.assertIs(type(paper[1]), list)
            self.assertIs(type(paper[2]), list)
            self.assertEqual(paper[0], found[0])
            self.assertTrue(doc_paper(wish, costs, paper))
            self.assertIs(cheap_right(wish, costs, paper), True)

    def test_the_way_is_a_row(self):
        self.assertEqual(cheap_paper(Then(any_of("b"), any_of("a")), {"a": 1, "b": 2})[1], ["b", "a"])

    def test_nothing_can_make_it_hold(self):
        for costs in [{"ann": 0}, {"ann": 5}]:
            self.assertIsNone(cheap_paper(never(), costs))
            for paper in [None, (0, [], []), (0, [], [[]]), (0, ["ann"], [[]]), (5, ["ann"], [[]]), (5, ["ann"], [["ann"]])]:
                self.assertIs(cheap_right(never(), costs, paper), False, paper)


class Right(unittest.TestCase):
    """Of Count(2, a b c) with costs 1, 2 and 4 the cheapest set is a and b, for 3."""

    wish = Count(2, ["a", "b", "c"])
    costs = {"a": 1, "b": 2, "c": 4}
    shut = [["a", "b"], ["a", "c"], ["b", "c"]]

    def tell(self, paper, right):
        self.assertIs(cheap_right(self.wish, self.costs, paper), right, paper)
        if right:
            self.assertTrue(doc_paper(self.wish, self.costs, paper))

    def test_right_ones_whoever_wrote_them(self):
        self.tell((3, ["a", "b"], self.shut), True)
        self.tell((3, ["b", "a"], self.shut), True)
        for shut in itertools.permutations(self.shut):
            self.tell((3, ["a", "b"], list(shut)), True)
            self.tell((3, ["a", "b"], [some[::-1] for some in shut]), True)

    def test_blockers_that_are_not_least_or_stand_there_twice(self):
        self.tell((3, ["a", "b"], self.shut + [["c", "a", "b"]]), True)
        self.tell((3, ["a", "b"], self.shut + self.shut), True)

    def test_another_sum(self):
        for total in [-1, 0, 1, 2, 4, 5, NINES, None, "3", [3], (3,), True]:
            self.tell((total, ["a", "b"], self.shut), False)
        self.tell((5, ["a", "c"], self.shut), False)
        self.tell((7, ["a", "b", "c"], self.shut), False)

    def test_true_is_no_1_and_false_no_0(self):
        self.assertIs(cheap_right(any_of("a"), {"a": 1}, (1, ["a"], [["a"]])), True)
        self.assertIs(cheap_right(any_of("a"), {"a": 1}, (True, ["a"], [["a"]])), False)
        self.assertIs(cheap_right(any_of("a"), {"a": 0}, (0, ["a"], [])), True)
        self.assertIs(cheap_right(any_of("a"), {"a": 0}, (False, ["a"], [])), False)

    def test_another_way(self):
        for way in [[], ["a"], ["a", "c"], ["a", "b", "c"], ["a", "b", "x"], ["x", "a", "b"], ["a", "b", "b"], ["a", "a", "b"],
                    ("a", "b"), "ab", {"a": 1, "b": 2}, {"a", "b"}, ["a", "B"], ["a", None], [["a"], ["b"]], [1, 2], None]:
            self.tell((3, way, self.shut), False)

    def test_a_way_of_a_name_that_costs_nothing_more(self):
        wish, costs = any_of("a", "b"), {"a": 0, "b": 0}
        for way in [["a"], ["b"], ["a", "b"], ["b", "a"]]:
            self.assertIs(cheap_right(wish, costs, (0, way, [])), True)
        self.assertIs(cheap_right(wish, costs, (0, [], [])), False)

    def test_a_way_in_the_wrong_order(self):
        wish, costs = Then(any_of("b"), any_of("a")), {"a": 1, "b": 2}
        self.assertIs(cheap_right(wish, costs, (3, ["b", "a"], [["a"], ["b"]])), True)
        self.assertIs(cheap_right(wish, costs, (3, ["a", "b"], [["a"], ["b"]])), False)

    def test_a_blocker_otherwise(self):
        for place in range(3):
            # Without b c, a alone meets the others for 1; without a c, b for 2; without a b, c for 4.
            self.tell((3, ["a", "b"], self.shut[:place] + self.shut[place + 1:]), place == 0)
            for other in [[], ["a"], ["b"], ["c"], ["a", "x"], ["a", "b", "x"], ["a", "b", "b"], ["a", "b", "a"], ("a", "b"),
                          "ab", {"a": 1, "b": 1}, {"a", "b"}, None, 1, ["a", None], ["a", "B"], [["a", "b"]], [1, 2]]:
                shut = list(self.shut)
                shut[place] = other
                self.tell((3, ["a", "b"], shut), False)
                self.tell((3, ["a", "b"], self.shut + [other]), False)
                self.tell((3, ["a", "b"], [other] + self.shut), False)

    def test_blockers_that_do_not_shut_enough(self):
        for shut in [[], [["a", "b"]], [["a", "b", "c"]], [["a", "b"], ["a", "c"]], [["a", "b", "c"], ["b", "c"]]]:
            self.tell((3, ["a", "b"], shut), False)
        self.tell((3, ["a", "b"], [["a", "c"], ["b", "c"]]), True)
        self.tell((3, ["a", "b"], [["a", "c"], ["b", "c"], ["a", "b", "c"]]), True)

    def test_no_blockers_are_enough_for_nothing_alone(self):
        self.assertIs(cheap_right(any_of("a", "b"), {"a": 0, "b": 9}, (0, ["a"], [])), True)
        self.assertIs(cheap_right(any_of("a", "b"), {"a": 0, "b": 9}, (0, ["a"], [["b", "a"]])), True)
        self.assertIs(cheap_right(any_of("a", "b"), {"a": 1, "b": 9}, (1, ["a"], [])), False)
        self.assertIs(cheap_right(any_of("a", "b"), {"a": 1, "b": 9}, (1, ["a"], [["b", "a"]])), True)

    def test_shut_of_another_kind(self):
        for shut in odd_things() + [tuple(self.shut), [tuple(some) for some in self.shut], {"a": 1}, "ab", 3, (), ["ab"]]:
            self.tell((3, ["a", "b"], shut), False)

    def test_another_order_or_number_of_things(self):
        way, shut = ["a", "b"], self.shut
        for paper in [(), (3,), (3, way), (3, way, shut, shut), (3, way, shut, None), (way, 3, shut), (3, shut, way),
                      (shut, way, 3), (way, shut, 3), [3, way, shut], ((3, way, shut),), {0: 3, 1: way, 2: shut}]:
            self.tell(paper, False)

    def test_things_of_every_other_kind(self):
        for thing in odd_things() + [1, 3, "abc", "a", [], ["a", "b"], any_of("a"), [3, ["a", "b"], self.shut]]:
            self.tell(thing, False)
            self.tell((thing, thing, thing), False)
            self.tell((thing, ["a", "b"], self.shut), isinstance(thing, int) and thing == 3)
            self.tell((3, thing, self.shut), isinstance(thing, list) and thing == ["a", "b"])
            self.tell((3, ["a", thing], self.shut), False)
            self.tell((3, ["a", "b"], self.shut + [thing]), isinstance(thing, list) and thing == ["a", "b"])
            self.tell((3, ["a", "b"], self.shut + [["a", "b", thing]]), False)

    def test_whatever_is_right_has_the_least_sum(self):
        chance = random.Random(23)
        seen = {True: 0, False: 0}
        for wish in some_wishes(23, 60, FIVE[:4]):
            names = wish.names_in()
            costs = some_costs(chance, names)
            rows, blockers = rows_of(names), doc_blockers(wish)
            for k in range(20):
                way = chance.choice(rows)
                total = sum(costs[name] for name in way)
                shut = [chance.sample(some, len(some)) for some in chance.sample(blockers, chance.randint(0, len(blockers)))]
                paper = (total, way, shut)
                right = cheap_right(wish, costs, paper)
                self.assertIs(right, doc_paper(wish, costs, paper))
                seen[right] += 1
                if right:
                    self.assertEqual(total, cheapest(wish, costs)[0])
        self.assertGreater(min(seen.values()), 50)

    def test_papers_for_other_costs_or_another_wish(self):
        paper = cheap_paper(self.wish, self.costs)
        self.assertIs(cheap_right(self.wish, {"a": 1, "b": 2, "c": 1}, paper), False)
        self.assertIs(cheap_right(self.wish, {"a": 1, "b": 2, "c": 2}, paper), True)
        self.assertIs(cheap_right(any_of("a", "b", "c"), self.costs, paper), False)
        self.assertIs(cheap_right(Both([all_of("a", "b"), any_of("c", "a")]), self.costs, paper), True)


class Refused(unittest.TestCase):
    def refuse(self, wish, costs):
        for tell in [lambda: cheapest(wish, costs), lambda: cheap_paper(wish, costs),
                     lambda: cheap_right(wish, costs, (0, [], [])), lambda: cheap_right(wish, costs, None),
                     lambda: cheap_right(wish, costs, Sour())]:
            with self.assertRaises(EnoughError) as caught:
                tell()
            self.assertIs(type(caught.exception), NoCost)
            self.assertIsInstance(caught.exception, ValueError)

    def test_what_are_no_costs(self):
        for thing in odd_things():
            self.refuse(any_of("b"), thing)
        for thing in [[("a", 1)], ("a", 1), [1], 1, "a", any_of("a")]:
            self.refuse(any_of("a"), thing)

    def test_names_too_few_too_many_or_others(self):
        wish = any_of("a", "b")
        for costs in [{}, {"a": 1}, {"b": 1}, {"a": 1, "c": 1}, {"a": 1, "b": 1, "c": 1}, {"a": 1, "b": 1, "": 1},
                      {"a": 1, "B": 1}, {"a": 1, "b": 1, 1: 1}, {"a": 1, 2: 1}, {"a": 1, "b": 1, None: 1},
                      {"a": 1, "b": 1, True: 1}, {"a": 1, ("b",): 1}, {1: 1, 2: 2}, {"a": 1, "b": 1, b"a": 1}]:
            self.refuse(wish, costs)

    def test_costs_of_another_kind(self):
        for thing in wrong_numbers():
            self.refuse(any_of("a", "b"), {"a": thing, "b": 1})
            self.refuse(any_of("a", "b"), {"a": 1, "b": thing})

    def test_refused_where_no_set_can_do(self):
        self.refuse(never(), {})
        self.refuse(never(), {"ann": -1})
        self.refuse(never(), {"ann": 1, "bob": 1})

    def test_refused_where_a_dearer_name_is_wrong(self):
        self.refuse(any_of("a", "b"), {"a": 0, "b": None})
        self.refuse(any_of("a"), {"a": True})


class Kept(unittest.TestCase):
    def test_what_is_handed_in_stays(self):
        wish, costs = Then(any_of("b", "c"), any_of("a")), {"c": 1, "a": 2, "b": 3}
        before = told_fields(wish)
        paper = (3, ["c", "a"], [["c", "b"], ["a"]])
        self.assertEqual(cheapest(wish, costs), (3, ["a", "c"]))
        cheap_paper(wish, costs)
        self.assertIs(cheap_right(wish, costs, paper), True)
        self.assertEqual(list(costs.items()), [("c", 1), ("a", 2), ("b", 3)])
        self.assertEqual(paper, (3, ["c", "a"], [["c", "b"], ["a"]]))
        self.assertEqual(told_fields(wish), before)

    def test_what_is_told_is_the_callers_own(self):
        wish, costs = Count(2, ["a", "b", "c"]), {"a": 1, "b": 2, "c": 3}
        told = cheapest(wish, costs)
        told[1].append("z")
        self.assertEqual(cheapest(wish, costs), (3, ["a", "b"]))
        paper = cheap_paper(wish, costs)
        same = (paper[0], list(paper[1]), [list(some) for some in paper[2]])
        paper[1].append("z")
        paper[2][0].append("z")
        paper[2].append(["y"])
        self.assertEqual(cheap_paper(wish, costs), same)
        self.assertEqual(least_blockers(wish), [["a", "b"], ["a", "c"], ["b", "c"]])

    def test_costs_changed_behind_change_nothing_that_was_told(self):
        wish, costs = any_of("a", "b"), {"a": 1, "b": 2}
        told, paper = cheapest(wish, costs), cheap_paper(wish, costs)
        costs["a"] = 9
        self.assertEqual(told, (1, ["a"]))
        self.assertEqual(paper[:2], (1, ["a"]))
        self.assertEqual(cheapest(wish, costs), (2, ["b"]))

    def test_a_ring_in_a_paper(self):
        things = ring()
        for paper in [(0, things, []), (0, ["a"], things), (0, ["a"], [things])]:
            self.assertIs(cheap_right(any_of("a"), {"a": 0}, paper), False)


if __name__ == "__main__":
    unittest.main()
