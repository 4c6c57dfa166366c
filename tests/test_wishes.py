"""0.3 and 1.1, 1.2: names, numbers, the six kinds, what is refused, names, depth and parts."""

import unittest

from enoughsaid.errors import EnoughError, NoWish
from enoughsaid.wishes import Both, Count, Either, Houses, Then, Weigh, Wish, is_name, is_row, is_whole
from tests.helper import FIVE, Sour, any_of, deepened, odd_things, ring, told_fields

KINDS = [Count, Weigh, Houses, Both, Either, Then]


class Things(unittest.TestCase):
    def test_names(self):
        for name in ["a", "z", "az", "abcdefgh", "zzzzzzzz", "count"]:
            self.assertIs(is_name(name), True, name)
        for thing in odd_things() + [1, ["a"], Count(1, ["a"]), "a ", " a", "a~", "abcdefghi", "\u00e4", "\u00df"]:
            self.assertIs(is_name(thing), False, repr(thing) if not isinstance(thing, Sour) else "sour")

    def test_wholes(self):
        for number in [0, 1, -1, 5, 999999999, 10 ** 9, 10 ** 40]:
            self.assertIs(is_whole(number), True, number)
        for thing in [True, False, None, "", "1", [1], (1,), {}, set(), b"1", object(), Sour(), int, range(2), ring()]:
            self.assertIs(is_whole(thing), False)

    def test_rows(self):
        for row in [[], ["a"], ["b", "a"], list(FIVE), list("abcdefghijkl"), list("abcdefghijklmnop")]:
            self.assertIs(is_row(row), True, row)
        for thing in odd_things() + [
            "a", "ab", 1, ("a",), Count(1, ["a"]), ["a", "b", "a"], ["a", "b", "b"], ["a", True], ["a", None],
            ["a", 1], ["a", ""], ["a", "B"], ["a", Sour()], ["a", ring()], ["a", {"a"}], ["abcdefghi"],
        ]:
            self.assertIs(is_row(thing), False)


class Made(unittest.TestCase):
    def test_kinds(self):
        for kind in KINDS:
            self.assertTrue(issubclass(kind, Wish))
            for other in KINDS:
                self.assertEqual(issubclass(kind, other), kind is other)

    def test_count(self):
        for names in [["a"], ["b", "a"], list(FIVE)]:
            for many in range(1, len(names) + 1):
                wish = Count(many, names)
                self.assertEqual((wish.many, wish.names), (many, names))

    def test_weigh(self):
        pairs = [("b", 1), ("a", 10 ** 9)]
        for least in [1, 2, 10 ** 9, 10 ** 9 + 1]:
            wish = Weigh(least, pairs)
            self.assertEqual((wish.least, wish.pairs), (least, pairs))
        self.assertEqual(Weigh(1, [("a", 1)]).pairs, [("a", 1)])
        five = [(name, 10 ** 9) for name in FIVE]
        self.assertEqual(Weigh(5 * 10 ** 9, five).pairs, five)

    def test_houses(self):
        houses = [["b", "a"], ["a", "c", "d"], ["a", "b"]]
        for many in [1, 2, 3]:
            for each in [1, 2]:
                wish = Houses(many, each, houses)
                self.assertEqual((wish.many, wish.each, wish.houses), (many, each, houses))
        self.assertEqual(Houses(5, 5, [list(FIVE)] * 5).houses, [FIVE] * 5)
        self.assertEqual(Houses(1, 1, [["a"]]).houses, [["a"]])

    def test_both_and_either(self):
        one = any_of("a")
        for kind in [Both, Either]:
            for many in [1, 2, 5]:
                wish = kind([one] * many)
                self.assertEqual(len(wish.wishes), many)
                self.assertTrue(all(part is one for part in wish.wishes))

    def test_then(self):
        one, other = any_of("a"), any_of("b")
        wish = Then(one, other)
        self.assertIs(wish.one, one)
        self.assertIs(wish.other, other)


class Told(unittest.TestCase):
    def test_names_in(self):
        for wish, names in [
            (Count(1, ["b", "c", "a"]), ["a", "b", "c"]),
            (Weigh(1, [("c", 1), ("a", 1)]), ["a", "c"]),
            (Houses(1, 1, [["c", "b"], ["b", "a"]]), ["a", "b", "c"]),
            (Both([any_of("b"), any_of("a", "b")]), ["a", "b"]),
            (Either([any_of("z"), any_of("ab", "aa")]), ["aa", "ab", "z"]),
            (Then(any_of("b"), Both([any_of("b"), any_of("a")])), ["a", "b"]),
        ]:
            self.assertEqual(wish.names_in(), names)

    def test_depth(self):
        for leaf in [any_of("a"), Weigh(1, [("a", 1)]), Houses(1, 1, [["a"], ["b"]])]:
            self.assertEqual((leaf.depth(), leaf.parts_many()), (1, 1))
            for many in [1, 2, 3]:
                wish = deepened(leaf, many)
                self.assertEqual((wish.depth(), wish.parts_many()), (1 + many, 1 + many))
        a = any_of("a")
        self.assertEqual(Then(a, Either([a])).depth(), 3)
        self.assertEqual(Then(Either([Both([a])]), a).depth(), 4)
        self.assertEqual(Both([a, Then(a, a), a]).depth(), 3)

    def test_parts(self):
        a = any_of("a")
        self.assertEqual(Then(a, a).parts_many(), 3)
        self.assertEqual(Both([a] * 5).parts_many(), 6)
        self.assertEqual(Either([Then(a, a), a]).parts_many(), 5)
        self.assertEqual(Then(Both([a] * 5), Either([a] * 4)).parts_many(), 12)

    def test_kinds_of_what_is_told(self):
        wish = Both([any_of("a")])
        self.assertIs(type(wish.names_in()), list)
        self.assertTrue(is_whole(wish.depth()) and is_whole(wish.parts_many()))


class Refused(unittest.TestCase):
    def refuse(self, kind, *handed):
        with self.assertRaises(EnoughError) as caught:
            kind(*handed)
        self.assertIs(type(caught.exception), NoWish)

    def test_count_of_wrong_numbers(self):
        for many in [0, -1, 3, 999999999, True, False, None, "1", [1], (1,), {}, Sour(), any_of("a")]:
            self.refuse(Count, many, ["a", "b"])
        self.refuse(Count, True, ["a"])
        self.refuse(Count, 2, ["a"])
        self.refuse(Count, 6, FIVE)

    def test_count_of_wrong_names(self):
        for names in odd_things() + [[], "a", "abc", ("a",), {"a": 1}, any_of("a"), 1, list("abcdef")]:
            self.refuse(Count, 1, names)

    def test_a_wrong_name_at_any_place(self):
        for place in range(5):
            for thing in odd_things() + [1, 2, ["a"], any_of("a")]:
                names = list("abcde")
                names[place] = thing
                self.refuse(Count, 1, names)
                self.refuse(Houses, 1, 1, [["a"], names])
                self.refuse(Weigh, 1, [(name, 1) for name in names])

    def test_a_name_told_twice_at_any_places(self):
        for place in range(5):
            for later in range(place + 1, 5):
                names = list("abcde")
                names[later] = names[place]
                self.refuse(Count, 1, names)
                self.refuse(Houses, 1, 1, [names])
                self.refuse(Houses, 1, 1, [["a"], names, ["b"]])
                self.refuse(Weigh, 1, [(name, k + 1) for k, name in enumerate(names)])

    def test_weigh_of_wrong_least(self):
        for least in [0, -1, 4, 10 ** 9, True, False, None, "1", [1], (1,), {}, Sour(), any_of("a")]:
            self.refuse(Weigh, least, [("a", 1), ("b", 2)])
        self.refuse(Weigh, True, [("a", 1)])
        self.refuse(Weigh, 5 * 10 ** 9 + 1, [(name, 10 ** 9) for name in FIVE])

    def test_weigh_of_wrong_weights(self):
        for weight in [0, -1, 10 ** 9 + 1, True, False, None, "1", [1], (1,), {}, Sour(), any_of("a")]:
            self.refuse(Weigh, 1, [("a", weight)])
            self.refuse(Weigh, 1, [("b", 5), ("a", weight)])
            self.refuse(Weigh, 1, [("a", weight), ("b", 5)])

    def test_weigh_of_wrong_pairs(self):
        for pairs in odd_things() + [[], "a", ("a", 1), (("a", 1),), {"a": 1}, [(name, 1) for name in "abcdef"]]:
            self.refuse(Weigh, 1, pairs)
        for pair in odd_things() + [("a",), ("a", 1, 1), ["a", 1], {"a": 1}, (1, "a"), "a", any_of("a")]:
            self.refuse(Weigh, 1, [pair])
            self.refuse(Weigh, 1, [("b", 1), pair])

    def test_houses_of_wrong_numbers(self):
        houses = [["a", "b"], ["a", "b", "c"]]
        for number in [0, -1, 3, True, False, None, "1", [1], (1,), {}, Sour(), any_of("a")]:
            self.refuse(Houses, number, 1, houses)
            self.refuse(Houses, 1, number, houses)
        self.refuse(Houses, 1, 2, [["a", "b"], ["a"]])
        self.refuse(Houses, 1, 2, [["a"], ["a", "b"]])

    def test_houses_of_wrong_houses(self):
        for houses in odd_things() + [[], ["a"], "a", (["a"],), {"a": 1}, [("a",)], ["ab"], [["a"]] * 6]:
            self.refuse(Houses, 1, 1, houses)
        for house in odd_things() + [[], "a", ("a",), 1, list("abcdef"), any_of("a")]:
            self.refuse(Houses, 1, 1, [house])
            self.refuse(Houses, 1, 1, [["a"], house])
            self.refuse(Houses, 1, 1, [house, ["a"]])

    def test_both_and_either_of_wrong_wishes(self):
        a = any_of("a")
        for kind in [Both, Either]:
            for wishes in odd_things() + [[], a, (a,), {1: a}, [a] * 6, [[a]], [(a,)], ["a"], "a"]:
                self.refuse(kind, wishes)
            for place in range(3):
                for thing in odd_things() + [1, "a", ["a"], [a]]:
                    wishes = [a, a, a]
                    wishes[place] = thing
                    self.refuse(kind, wishes)

    def test_then_of_wrong_wishes(self):
        a = any_of("a")
        for thing in odd_things() + [1, "a", ["a"], [a], (a, a)]:
            self.refuse(Then, a, thing)
            self.refuse(Then, thing, a)
            self.refuse(Then, thing, thing)


class Bounds(unittest.TestCase):
    def refuse(self, kind, *handed):
        with self.assertRaises(EnoughError) as caught:
            kind(*handed)
        self.assertIs(type(caught.exception), NoWish)

    def test_five_names_in_all_and_six(self):
        self.assertEqual(Houses(2, 1, [list("abc"), list("cde")]).names_in(), list("abcde"))
        self.refuse(Houses, 2, 1, [list("abc"), list("def")])
        abc, de, f = any_of("a", "b", "c"), any_of("c", "d", "e"), any_of("f")
        for kind in [Both, Either]:
            self.assertEqual(kind([abc, de]).names_in(), list("abcde"))
            self.refuse(kind, [abc, de, f])
        self.assertEqual(Then(abc, de).names_in(), list("abcde"))
        self.refuse(Then, Then(abc, de), f)
        self.refuse(Then, f, Both([abc, de]))

    def test_four_deep_and_five(self):
        a = any_of("a")
        four = deepened(a, 3)
        self.assertEqual(four.depth(), 4)
        self.assertEqual(Then(Either([Both([a])]), a).depth(), 4)
        self.refuse(Both, [four])
        self.refuse(Either, [a, four])
        self.refuse(Then, a, four)
        self.refuse(Then, four, a)

    def test_twelve_parts_and_thirteen(self):
        a = any_of("a")
        five, six = Both([a] * 4), Either([a] * 5)
        self.assertEqual(Then(five, six).parts_many(), 12)
        self.assertEqual(Both([five, six]).parts_many(), 12)
        self.assertEqual(Either([five, a, a, a, Then(a, a)]).parts_many(), 12)
        self.refuse(Then, six, six)
        self.refuse(Both, [six, six])
        self.refuse(Either, [five, a, six])
        self.refuse(Both, [six] * 5)

    def test_one_wish_in_several_places_counts_in_each(self):
        pair = Then(any_of("a"), any_of("b"))
        self.assertEqual(Both([pair, pair, pair]).parts_many(), 10)
        self.refuse(Both, [pair] * 4)
        self.assertEqual(Then(pair, pair).parts_many(), 7)


class Kept(unittest.TestCase):
    def test_what_is_handed_in_stays_and_is_not_looked_at_again(self):
        names, pairs, houses = ["b", "a"], [("b", 2), ("a", 1)], [["b", "a"], ["a"]]
        wishes = [any_of("a")]
        made = [Count(1, names), Weigh(2, pairs), Houses(1, 1, houses), Both(wishes), Either(wishes)]
        self.assertEqual(names, ["b", "a"])
        self.assertEqual(pairs, [("b", 2), ("a", 1)])
        self.assertEqual(houses, [["b", "a"], ["a"]])
        self.assertEqual(len(wishes), 1)
        before = [(told_fields(wish), wish.names_in()) for wish in made]
        names[0] = "z"
        pairs.append(("z", 9))
        houses[0].append("z")
        houses.append(["y"])
        wishes[0] = any_of("z")
        wishes.append(any_of("y"))
        self.assertEqual([(told_fields(wish), wish.names_in()) for wish in made], before)

    def test_what_is_told_is_the_callers_own(self):
        for wish in [
            Count(1, ["a", "b"]), Weigh(2, [("a", 1), ("b", 2)]), Houses(1, 1, [["b", "a"], ["a"]]),
            Both([any_of("a")]), Either([any_of("a")]), Then(any_of("a"), any_of("b")),
        ]:
            before = told_fields(wish)
            told = wish.names_in()
            same = list(told)
            told[0] = "z"
            told.append("y")
            self.assertEqual(wish.names_in(), same)
            self.assertEqual(told_fields(wish), before)

    def test_a_refusal_changes_nothing(self):
        wishes = [Both([any_of("a")] * 5), Either([any_of("b")] * 5)]
        before = [told_fields(wish) for wish in wishes]
        for kind in [Both, Either]:
            with self.assertRaises(NoWish):
                kind(wishes)
        self.assertEqual([told_fields(wish) for wish in wishes], before)
        self.assertEqual(len(wishes), 2)


if __name__ == "__main__":
    unittest.main()
