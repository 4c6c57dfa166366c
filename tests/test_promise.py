"""0.1 to 0.3: what is promised over the whole program, looked at from outside, by what an asker told alone."""

import copy
import random
import unittest

from enoughsaid.asker import Asker
from enoughsaid.errors import EnoughError
from enoughsaid.judge import judged, resumed
from enoughsaid.texts import read_book, read_wish, show_book, show_wish
from enoughsaid.ways import can_hold, wanted
from enoughsaid.wishes import first_by, holds
from tests.doc_asker import run_by_chance, some_things, told_of
from tests.helper import FIVE, never, odd_things, some_wishes


class Promise(unittest.TestCase):
    def test_whatever_comes(self):
        chance = random.Random(1)
        wishes = some_wishes(2, 60) + some_wishes(3, 20, FIVE[:2]) + [never()]
        ends = {}
        for run in range(150):
            things = some_things(chance, wishes)
            asker = Asker(*things)
            watch = Watch(self, asker, things)
            run_by_chance(chance, things, asker, 30, watch.look)
            self.assertIsNone(judged(*things, asker.book()))
            self.assertEqual(read_book(show_book(asker.book())), asker.book())
            again = resumed(read_wish(show_wish(things[0])), *things[1:], read_book(show_book(asker.book())))
            self.assertEqual(told_of(again, things[1]), told_of(asker, things[1]))
            for state in watch.ends:
                ends[state] = ends.get(state, 0) + 1
        for state in ["done", "never", "off"]:
            self.assertGreater(ends[state], 20)

    def test_what_is_refused_changes_nothing(self):
        chance = random.Random(4)
        wishes = some_wishes(5, 10)
        for run in range(10):
            things = some_things(chance, wishes)
            asker = Asker(*things)

            def each(way, handed, told):
                before = told_of(asker, things[1])
                for thing in chance.sample(odd_things(), 5) + [-1]:
                    if type(thing) is int and thing >= 0:
                        continue
                    for deed in [asker.wake, asker.call_off, lambda one: asker.begin(handed[0] + 1, one),
                                 lambda one: asker.hear(handed[0] + 1, one), lambda one: asker.begin(one, one)]:
                        self.assertRaises(EnoughError, deed, thing)
                self.assertEqual(told_of(asker, things[1]), before)

            run_by_chance(chance, things, asker, 12, each)

    def test_what_is_handed_in_and_told_is_apart(self):
        chance = random.Random(6)
        wishes = some_wishes(7, 10)
        for run in range(20):
            things = some_things(chance, wishes)
            kept = copy.deepcopy(things[1])
            seed = chance.random()
            first = run_by_chance(random.Random(seed), things, Asker(*things), 12)
            keys = dict(kept)
            second = Asker(things[0], keys, *things[2:])
            keys.clear()

            def spoil(way, handed, told):
                for some in [told, second.row(), second.out(), second.book()]:
                    if isinstance(some, list):
                        some.clear()

            run_by_chance(random.Random(seed), things, second, 12, spoil)
            self.assertEqual(things[1], kept)
            self.assertEqual(told_of(second, kept), told_of(first, kept))


class Watch:
    """Looks at an asker behind each deed."""

    def __init__(self, test, asker, things):
        self.test, self.asker = test, asker
        self.wish, self.keys, rule, self.pause, self.times = things
        self.before = "idle"
        self.ends = []
        self.letters = {}

    def look(self, way, handed, told):
        state, row, out = self.asker.state(), self.asker.row(), self.asker.out()
        if way == "begin":
            self.letters = {}
            self.before = "open"
            self.test.assertEqual((row, out), ([], sorted(self.keys)))
        if isinstance(told, list):
            self.look_at_letters(handed[0], told, wanted(self.wish, row, out))
        if self.before == "open":
            self.look_at_end(state, row, out)
            self.test.assertEqual(self.asker.ended(), None if state == "open" else handed[0])
            if state != "open":
                self.ends.append(state)
        else:
            self.test.assertEqual(state, self.before)
        self.before = state

    def look_at_letters(self, moment, names, still):
        for name in names:
            sent = self.letters.setdefault(name, [])
            self.test.assertIn(name, still)
            self.test.assertLess(len(sent), self.times)
            if sent:
                self.test.assertGreaterEqual(moment - sent[-1], self.pause)
            sent.append(moment)
            self.test.assertEqual(self.asker.asked(name), len(sent))

    def look_at_end(self, state, row, out):
        """While it was open it could hold and didn't: so it ends at just the first moment at which one of both is so."""
        self.test.assertEqual(state == "done", holds(self.wish, row))
        if state == "done":
            self.test.assertEqual(first_by(self.wish, row), len(row))
        elif state != "off":
            self.test.assertEqual(state == "never", not can_hold(self.wish, row, out))


if __name__ == "__main__":
    unittest.main()
