"""Stage 8: the judge of books, and askers that go on where a book ended."""

import copy
import random
import unittest

from enoughsaid.answers import Answer, seal_of
from enoughsaid.asker import Asker
from enoughsaid.errors import EnoughError, NoAsk, NoBook, NoRule, NoWish
from enoughsaid.judge import judged, resumed
from enoughsaid.wishes import Then, is_name
from tests.doc_asker import DocAsker, run_by_chance, small_wishes, some_deed, some_things, told_of
from tests.helper import FIVE, Sour, all_of, any_of, never, odd_things, ring, told_fields

KEYS = {"ann": 11, "bob": 22, "u": 33}
THINGS = (all_of("ann", "bob"), KEYS, "most", 10, 2)


def true_one(name, ask=1, value=5, stamp=0):
    return Answer(name, ask, value, stamp, seal_of(KEYS[name], ask, value, stamp))


def right_book():
    """All four rows, and every word."""
    asker = Asker(*THINGS)
    asker.hear(0, true_one("ann"))
    asker.wake(0)
    asker.call_off(1)
    asker.begin(2, 1)
    asker.hear(3, true_one("ann", 2))
    asker.hear(3, true_one("ann", 0))
    asker.hear(3, Answer("ann", 1, 5, 0, 1))
    asker.hear(3, true_one("u", 1, None))
    asker.hear(4, true_one("ann"))
    asker.hear(4, true_one("ann"))
    asker.wake(12)
    asker.wake(13)
    asker.hear(14, true_one("bob", 1, 0, 3))
    asker.hear(15, true_one("bob"))
    asker.begin(20, 7)
    asker.call_off(21)
    asker.begin(21, 8)
    asker.hear(22, true_one("bob", 8, None))
    asker.begin(30, 9)
    asker.wake(40)
    asker.wake(50)
    return asker.book()


def exact(thing):
    """A thing told so that True is no 1, and a list no tuple."""
    if type(thing) is tuple:
        return (tuple, [exact(one) for one in thing])
    return (type(thing), thing if type(thing) in (int, str, bool, type(None)) else id(thing))


def is_number(thing):
    return type(thing) is int and thing >= 0


def doc_writes(asker, row):
    """Has the document's asker do what a row tells of, where it isn't refused; whether the row is what is written then."""
    if type(row) is not tuple or len(row) < 2 or not is_number(row[1]) or row[1] < asker.now:
        return False
    if exact(row[0]) == exact("begin") and len(row) == 4 and is_number(row[2]):
        if asker.number is not None and row[2] <= asker.number:
            return False
        asker.begin(row[1], row[2])
    elif exact(row[0]) == exact("hear") and len(row) == 8:
        right = [is_name(row[2]), is_number(row[3]), row[4] is None or is_number(row[4]), is_number(row[5]), is_number(row[6])]
        if not all(right):
            return False
        asker.hear(row[1], Answer(*row[2:7]))
    elif exact(row[0]) == exact("wake") and len(row) == 3:
        asker.wake(row[1])
    elif exact(row[0]) == exact("off") and len(row) == 3:
        asker.call_off(row[1])
    else:
        return False
    return exact(asker.book[-1]) == exact(row)


def doc_judged(things, book):
    if type(book) is not list:
        return 0
    asker = DocAsker(*things)
    return next((place for place, row in enumerate(book) if not doc_writes(asker, row)), None)


def with_part(row, place, thing):
    return row[:place] + (thing,) + row[place + 1:]


class Right(unittest.TestCase):
    def test_the_empty_book(self):
        self.assertIsNone(judged(*THINGS, []))

    def test_what_an_asker_wrote(self):
        book = right_book()
        self.assertEqual(len({row[-1] for row in book if row[0] == "hear"}), 10)
        self.assertEqual({row[0] for row in book}, {"begin", "hear", "wake", "off"})
        for many in range(len(book) + 1):
            self.assertIsNone(judged(*THINGS, book[:many]))

    def test_by_chance(self):
        chance = random.Random(81)
        wishes = small_wishes(82, 20) + [never()]
        for run in range(40):
            things = some_things(chance, wishes)
            book = run_by_chance(chance, things, Asker(*things), 25).book()
            self.assertIsNone(judged(*things, book))

    def test_what_is_handed_in_stays(self):
        book, keys = right_book(), dict(KEYS)
        before, wish = told_fields(THINGS[0]), THINGS[0]
        judged(wish, keys, "most", 10, 2, book)
        resumed(wish, keys, "most", 10, 2, book)
        self.assertEqual((book, keys, told_fields(wish)), (right_book(), KEYS, before))

    def test_long_books(self):
        wish = Then(all_of(*FIVE), any_of(*FIVE))
        for wish in [all_of(*FIVE), Then(any_of(*FIVE), all_of(*FIVE[:3])), wish]:
            keys = {name: 5 for name in FIVE + ["u", "v"]}
            asker = Asker(wish, keys, "most", 1, 999999999)
            for number in range(1500):
                asker.begin(3 * number, number)
                asker.hear(3 * number, Answer("bob", number, 1, 1, seal_of(5, number, 1, 1)))
                asker.wake(3 * number + 1)
                asker.wake(3 * number + 2)
            book = asker.book()
            self.assertIsNone(judged(wish, keys, "most", 1, 999999999, book))
            self.assertEqual(judged(wish, keys, "most", 1, 999999999, book + book[-5:]), len(book))


class Wrong(unittest.TestCase):
    def test_no_list(self):
        for thing in odd_things() + [tuple(right_book()), "begin 0 1 ann bob", {0: right_book()[0]}, iter(right_book())]:
            if not isinstance(thing, list):
                self.assertEqual(exact(judged(*THINGS, thing)), exact(0))

    def test_things_that_are_no_rows(self):
        book = right_book()
        for thing in odd_things() + [ring(), list(book[0]), (Sour(),), (Sour(), 1, ()), ((),), ([],), ("begin",), ("hear",),
                                     ("wake",), ("off",), ("wake", 0), ("off", 0), ("begin", 50, 10), ("Wake", 50, ()),
                                     ("call_off", 50, False), ("", 50, ()), ("idle",), "wake 50", {"wake": 50}]:
            for place in [0, 4, len(book)]:
                self.assertEqual(judged(*THINGS, book[:place] + [thing] + book[place:]), place)

    def test_any_part_another_thing(self):
        book = right_book()
        for place, row in enumerate(book):
            for at in range(len(row)):
                for thing in odd_things():
                    if exact(thing) == exact(row[at]):
                        continue
                    spoilt = book[:place] + [with_part(row, at, thing)] + book[place + 1:]
                    self.assertEqual(judged(*THINGS, spoilt), self.by_document(spoilt), spoilt[place])

    def by_document(self, book):
        return doc_judged(THINGS, book)

    def test_truths_for_numbers_and_lists_for_tuples(self):
        book = [("begin", 0, 0, ("ann", "bob")), ("hear", 1, "ann", 0, 1, 1, seal_of(11, 0, 1, 1), "ok"), ("wake", 1, ()),
                ("off", 1, True)]
        self.assertIsNone(judged(*THINGS, book))
        for place, at, thing in [(0, 1, False), (0, 2, False), (0, 3, ["ann", "bob"]), (1, 1, True), (1, 3, False), (1, 4, True),
                                 (1, 5, True), (2, 1, True), (2, 2, []), (3, 1, True), (3, 2, 1), (2, 2, None), (2, 2, False)]:
            spoilt = list(book)
            spoilt[place] = with_part(spoilt[place], at, thing)
            self.assertEqual(judged(*THINGS, spoilt), place)
        for place in range(4):
            spoilt = list(book)
            spoilt[place] = list(spoilt[place])
            self.assertEqual(judged(*THINGS, spoilt), place)
        self.assertEqual(judged(*THINGS, [("off", 0, False), ("off", 0, 0)]), 1)

    def test_a_part_too_many_or_too_few(self):
        book = right_book()
        for place, row in enumerate(book):
            for other in [row + (None,), row + ((),), row[:-1], row[:1], (), row + row, row[1:]]:
                self.assertEqual(judged(*THINGS, book[:place] + [other]), place)

    def test_names_told(self):
        for names in [("ann",), (), ("bob", "ann"), ("ann", "bob", "u"), ("ann", "bob", "bob"), ("ann", "ann", "bob"),
                      ("ann", Sour()), (Sour(), Sour()), (Sour(),), ("ann", None), (["ann", "bob"],), "annbob", ("ann bob",)]:
            self.assertEqual(judged(*THINGS, [("begin", 0, 1, names)]), 0)
            self.assertEqual(judged(*THINGS, [("begin", 0, 1, ("ann", "bob")), ("wake", 10, names)]), 1)

    def test_each_word_in_the_place_of_another(self):
        book = right_book()
        for place, row in enumerate(book):
            if row[0] == "hear":
                for word in ["idle", "strange", "elder", "false", "over", "twice", "done", "never", "no", "ok", "", "open"]:
                    if word != row[7]:
                        self.assertEqual(judged(*THINGS, book[:place] + [with_part(row, 7, word)] + book[place + 1:]), place)

    def test_refused_deeds_are_in_no_book(self):
        begun = [("begin", 5, 3, ("ann", "bob"))]
        for row in [("begin", 5, 3, ("ann", "bob")), ("begin", 5, 2, ("ann", "bob")), ("begin", 4, 4, ("ann", "bob")),
                    ("begin", -1, 4, ()), ("wake", 4, ()), ("off", 4, True), ("hear", 4, "u", 3, 5, 0, 0, "false"),
                    ("hear", 5, "U", 3, 5, 0, 0, "strange"), ("hear", 5, "u", -1, 5, 0, 0, "elder"),
                    ("hear", 5, "u", 3, -5, 0, 0, "false"), ("hear", 5, "u", 3, 5, -1, 0, "false"),
                    ("hear", 5, "u", 3, 5, 0, -1, "false")]:
            self.assertEqual(judged(*THINGS, begun + [row]), 1)

    def test_rows_left_out_twice_and_exchanged(self):
        chance = random.Random(83)
        wishes = small_wishes(84, 12)
        found = {}
        for run in range(120):
            things = some_things(chance, wishes)
            book = run_by_chance(chance, things, Asker(*things), 12).book()
            place, other = chance.randrange(12), chance.randrange(12)
            exchanged = list(book)
            exchanged[place], exchanged[other] = book[other], book[place]
            for spoilt in [book[:place] + book[place + 1:], book[:place] + [book[place]] + book[place:], exchanged,
                           book[:place] + [self.changed(chance, book[place])] + book[place + 1:]]:
                told = judged(*things, spoilt)
                self.assertEqual(exact(told), exact(doc_judged(things, spoilt)))
                found[told] = True
        self.assertEqual(sorted(place for place in found if place is not None), list(range(13)))

    def changed(self, chance, row):
        at = chance.randrange(len(row))
        return with_part(row, at, chance.choice([
            None, True, False, 0, 1, 2, 99, -1, "ann", "ok", "no", "wake", (), ("ann",), ("ann", "bob"), [], ["ann"], ((),)]))

    def test_by_other_things(self):
        book = right_book()
        for things in [(any_of("ann", "bob"),) + THINGS[1:], (THINGS[0], {"ann": 11, "bob": 23, "u": 33}) + THINGS[2:],
                       THINGS[:3] + (1, 2), THINGS[:3] + (11, 2), THINGS[:4] + (1,), THINGS[:4] + (3,)]:
            self.assertEqual(exact(judged(*things, book)), exact(doc_judged(things, book)))
            self.assertIsNotNone(judged(*things, book))
        self.assertIsNone(judged(THINGS[0], KEYS, "least", 10, 2, book))


class Refusals(unittest.TestCase):
    def test_as_the_askers_and_ahead_of_the_book(self):
        for way in [judged, resumed]:
            for book in [[], [None], None, Sour(), right_book()]:
                wrong = ["no wish", {"ann": 0}, "rule", 0, 0]
                kinds = [NoWish, NoAsk, NoRule, NoAsk, NoAsk]
                for picked in range(1, 32):
                    places = [place for place in range(5) if picked >> place & 1]
                    handed = [wrong[place] if place in places else THINGS[place] for place in range(5)]
                    with self.assertRaises(EnoughError) as caught:
                        way(*handed, book)
                    self.assertIs(type(caught.exception), kinds[places[0]])


class Resumed(unittest.TestCase):
    def test_goes_on_as_the_first_one_would(self):
        chance = random.Random(85)
        wishes = small_wishes(86, 12) + [never()]
        states = {}
        for run in range(60):
            things = some_things(chance, wishes)
            first = run_by_chance(chance, things, Asker(*things), chance.randrange(14))
            second = resumed(*things, first.book())
            self.assertIsInstance(second, Asker)
            states[first.state()] = True
            moment = max([row[1] for row in first.book()], default=0)
            for k in range(15):
                self.assertEqual(told_of(second, things[1]), told_of(first, things[1]))
                moment += chance.choice([0, 1, things[3]])
                way, handed = some_deed(chance, things[1], moment, first.number())
                self.assertEqual(getattr(second, way)(*handed), getattr(first, way)(*handed))
            self.assertEqual(told_of(second, things[1]), told_of(first, things[1]))
        self.assertEqual(sorted(states), ["done", "idle", "never", "off", "open"])

    def test_of_no_rows(self):
        asker = resumed(*THINGS, [])
        self.assertEqual(told_of(asker, KEYS), told_of(Asker(*THINGS), KEYS))

    def test_is_an_asker_of_its_own(self):
        book = right_book()
        asker = resumed(*THINGS, book)
        other = resumed(*THINGS, book)
        asker.begin(60, 60)
        self.assertEqual((book, other.book()), (right_book(), right_book()))
        book.clear()
        self.assertEqual(asker.book()[:-1], right_book())

    def test_no_book(self):
        book = right_book()
        wrong = [thing for thing in odd_things() if not isinstance(thing, list)]
        wrong += [[thing] for thing in odd_things()] + [tuple(book), book[1:2] + [list(book[2])], book + [book[3]], book[4:]]
        for thing in wrong:
            with self.assertRaises(EnoughError) as caught:
                resumed(*THINGS, thing)
            self.assertIs(type(caught.exception), NoBook)
            self.assertIsInstance(caught.exception, ValueError)

    def test_a_wrong_book_stays(self):
        book = right_book() + [["wake", 60, ()]]
        before = copy.deepcopy(book)
        self.assertRaises(NoBook, resumed, *THINGS, book)
        self.assertEqual(judged(*THINGS, book), len(book) - 1)
        self.assertEqual(book, before)


if __name__ == "__main__":
    unittest.main()
