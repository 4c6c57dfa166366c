"""Stage 7: the asker; and 8.1, the book that it writes."""

import random
import unittest

from enoughsaid.answers import Answer, seal_of
from enoughsaid.asker import Asker
from enoughsaid.errors import EnoughError, NoAnswer, NoAsk, NoRule, NoTime, NoWish
from enoughsaid.wishes import Both, Count, Either, Houses, Then, Weigh, Wish
from tests.doc_asker import RULES, DocAsker, run_by_chance, small_wishes, some_things, told_of
from tests.helper import FIVE, Sour, all_of, any_of, never, odd_things, told_fields, wrong_numbers

NINES = 999999999
KEYS = {"ann": 11, "bob": 22, "cid": 33, "dan": 44, "eve": 55, "u": 66, "v": 77}
WORDS = ["idle", "strange", "elder", "false", "over", "twice", "done", "never", "no", "ok"]


def true_one(name, ask=1, value=5, stamp=0, keys=KEYS):
    return Answer(name, ask, value, stamp, seal_of(keys[name], ask, value, stamp))


def false_one(name, ask=1, value=5, stamp=0):
    return Answer(name, ask, value, stamp, seal_of(KEYS.get(name, 1), ask, value, stamp) + 1)


def asker_of(wish, pause=10, times=2, rule="most", keys=KEYS):
    return Asker(wish, keys, rule, pause, times)


class Refusals(unittest.TestCase):
    def refuse(self, kind, way, *handed):
        with self.assertRaises(EnoughError) as caught:
            way(*handed)
        self.assertIs(type(caught.exception), kind, handed)
        self.assertIsInstance(caught.exception, ValueError)


class Making(Refusals):
    RIGHT = (any_of("ann"), {"ann": 1}, "most", 1, 1)

    def test_ordinary_and_edges(self):
        for keys in [{"ann": 1}, {"ann": 1000002}, {"ann": 1, "zz": 5}, KEYS]:
            for rule in RULES:
                for pause in [1, 60, NINES]:
                    for times in [1, 3, NINES]:
                        self.assertEqual(Asker(any_of("ann"), keys, rule, pause, times).state(), "idle")

    def test_every_kind_of_wish(self):
        for wish in [any_of("ann"), Weigh(1, [("ann", 1)]), Houses(1, 1, [["ann"]]), Both([any_of("ann")]),
                     Either([any_of("ann")]), never()]:
            self.assertEqual(Asker(wish, {"ann": 3}, "least", 5, 5).state(), "idle")

    def test_each_spoilt_alone(self):
        for place, thing, kind in self.spoilt():
            handed = list(self.RIGHT)
            handed[place] = thing
            self.refuse(kind, Asker, *handed)

    def spoilt(self):
        kinds = [NoWish, NoAsk, NoRule, NoAsk, NoAsk]
        for thing in odd_things() + ["ann", ["ann"], [any_of("ann")], (any_of("ann"),), Wish(), Count, "count 1 ann"]:
            yield 0, thing, NoWish
        for thing in self.wrong_keys():
            yield 1, thing, NoAsk
        for thing in odd_things() + ["Most", "most ", " most", "mos", "sum", ["most"], ("most",), {"most": 1}, b"most"]:
            yield 2, thing, NoRule
        for thing in wrong_numbers() + [0]:
            yield 3, thing, kinds[3]
            yield 4, thing, kinds[4]

    def wrong_keys(self):
        things = [thing for thing in odd_things() if not isinstance(thing, dict)] + [{}, any_of("ann")]
        things += [[("ann", 1)], (("ann", 1),), {"ann"}, ["ann"], {"bob": 1}, {"ann": 0}, {"ann": -1}, {"ann": 1000003}]
        things += [{"ann": key} for key in odd_things() if isinstance(key, bool) or not isinstance(key, int)]
        things += [{"ann": 1, "bob": key} for key in [0, True, None, "1", [1], (1,), 1000003]]
        things += [{"ann": 1, name: 1} for name in ["", "Ann", "abcdefghi", "a b", "a1", 1, None, True, ("ann",), b"ann"]]
        things += [{"ann": 1, **{name: 1 for name in "bcdefgh"}}]
        return things

    def test_all_of_the_wishes_names(self):
        for wish in [any_of(*FIVE), Then(any_of("ann"), any_of(*FIVE[1:])), Both([all_of(*FIVE[:4]), any_of("eve")])]:
            for name in FIVE:
                self.refuse(NoAsk, Asker, wish, {one: 1 for one in FIVE if one != name}, "most", 1, 1)
            self.assertEqual(Asker(wish, {one: 1 for one in FIVE}, "most", 1, 1).out(), FIVE)

    def test_seven_names_and_no_more(self):
        keys = {name: 1 for name in ["ann"] + list("bcdefg")}
        self.assertEqual(len(Asker(any_of("ann"), keys, "most", 1, 1).out()), 7)
        keys["h"] = 1
        self.refuse(NoAsk, Asker, any_of("ann"), keys, "most", 1, 1)

    def test_the_first_of_several_spoilt(self):
        wrong = ["no wish", {"ann": 0}, "rule", 0, 0]
        kinds = [NoWish, NoAsk, NoRule, NoAsk, NoAsk]
        for picked in range(1, 32):
            places = [place for place in range(5) if picked >> place & 1]
            handed = [wrong[place] if place in places else self.RIGHT[place] for place in range(5)]
            self.refuse(kinds[places[0]], Asker, *handed)

    def test_all_odd_at_once(self):
        for thing in odd_things():
            self.refuse(NoWish, Asker, thing, thing, thing, thing, thing)
            self.refuse(NoAsk, Asker, any_of("ann"), {"ann": thing}, thing, thing, thing)
            self.refuse(NoRule, Asker, any_of("ann"), {"ann": 1}, thing, thing, thing)


class Idle(Refusals):
    def test_what_is_told(self):
        asker = asker_of(any_of("bob"))
        self.assertEqual(told_of(asker, KEYS), ["idle", None, [], sorted(KEYS), [0] * 7, None, None, None, []])

    def test_deeds_change_nothing_but_the_moment_and_the_book(self):
        asker = asker_of(any_of("bob"))
        self.assertEqual(asker.wake(3), [])
        self.assertIs(asker.call_off(4), False)
        self.assertEqual(asker.hear(5, true_one("bob")), "idle")
        self.assertEqual(told_of(asker, KEYS)[:8], ["idle", None, [], sorted(KEYS), [0] * 7, None, None, None])
        self.refuse(NoTime, asker.wake, 4)
        self.assertEqual(asker.book(), [
            ("wake", 3, ()), ("off", 4, False), ("hear", 5, "bob", 1, 5, 0, true_one("bob").seal, "idle")])

    def test_idle_ahead_of_every_other_word(self):
        asker = asker_of(any_of("bob"))
        for answer in [true_one("bob"), false_one("bob"), false_one("zed", 9), true_one("u", 0, None)]:
            self.assertEqual(asker.hear(0, answer), "idle")
        self.assertEqual(asker.out(), sorted(KEYS))

    def test_0_asks(self):
        asker = asker_of(any_of("bob"))
        self.assertEqual([asker.asked(name) for name in KEYS], [0] * 7)


class Moments(Refusals):
    def deeds(self, asker):
        return [lambda moment: asker.begin(moment, 7), lambda moment: asker.begin(moment, None), asker.wake,
                asker.call_off, lambda moment: asker.hear(moment, true_one("ann")), lambda moment: asker.hear(moment, 5),
                lambda moment: asker.hear(moment, Sour()), lambda moment: asker.begin(moment, Sour())]

    def askers(self):
        """One in each state; the last deed of each was done at 20."""
        for state in ["idle", "open", "done", "never", "off"]:
            asker = asker_of(all_of("ann", "bob"))
            if state != "idle":
                asker.begin(20, 1)
            if state == "done":
                asker.hear(20, true_one("ann"))
                asker.hear(20, true_one("bob"))
            if state == "never":
                asker.hear(20, true_one("ann", value=None))
            if state == "off":
                asker.call_off(20)
            asker.wake(20)
            self.assertEqual(asker.state(), state)
            yield asker

    def test_gone_by_and_none_ahead_of_all_else(self):
        for asker in self.askers():
            told = told_of(asker, KEYS)
            for deed in self.deeds(asker):
                for moment in [19, 0] + wrong_numbers():
                    self.refuse(NoTime, deed, moment)
            self.assertEqual(told_of(asker, KEYS), told)

    def test_the_same_moment_again(self):
        for asker in self.askers():
            self.assertEqual(asker.wake(20), [])
            self.assertEqual(asker.book()[-1], ("wake", 20, ()))

    def test_nought_and_nine_figures(self):
        asker = asker_of(any_of("ann"), NINES, NINES)
        self.assertEqual(asker.begin(0, 0), ["ann"])
        self.assertEqual(asker.due(), NINES)
        self.assertEqual(asker.wake(NINES), ["ann"])
        self.assertEqual(asker.due(), 2 * NINES)

    def test_every_deed_that_was_done_moves_the_last_moment(self):
        for word, answer in [("strange", true_one("ann", 9)), ("elder", true_one("ann", 0)), ("false", false_one("ann"))]:
            asker = asker_of(all_of("ann", "bob"))
            asker.begin(1, 1)
            self.assertEqual(asker.hear(30, answer), word)
            self.refuse(NoTime, asker.wake, 29)
        asker = asker_of(any_of("ann"))
        asker.call_off(9)
        self.refuse(NoTime, asker.begin, 8, 1)
        self.assertEqual(asker.begin(9, 1), ["ann"])

    def test_a_refused_deed_moves_nothing(self):
        asker = asker_of(any_of("ann"))
        asker.begin(5, 5)
        self.refuse(NoAsk, asker.begin, 50, 5)
        self.refuse(NoAnswer, asker.hear, 60, "answer")
        self.assertEqual(asker.wake(6), [])
        self.assertEqual(len(asker.book()), 2)


class Beginning(Refusals):
    def test_letters_go_to_the_wanted_ones_alone(self):
        wish = Either([any_of("bob"), all_of("bob", "eve"), Then(any_of("cid"), any_of("ann"))])
        asker = asker_of(wish)
        self.assertEqual(asker.begin(4, 2), ["ann", "bob", "cid"])
        self.assertEqual([asker.asked(name) for name in sorted(KEYS)], [1, 1, 1, 0, 0, 0, 0])
        self.assertEqual((asker.state(), asker.number(), asker.row(), asker.ended()), ("open", 2, [], None))
        self.assertEqual(asker.out(), sorted(KEYS))
        self.assertEqual(asker.book(), [("begin", 4, 2, ("ann", "bob", "cid"))])

    def test_never_at_once(self):
        for wish in [never(), Both([any_of("bob"), never()]), Then(all_of("ann", "bob"), any_of("bob"))]:
            asker = asker_of(wish)
            self.assertEqual(asker.begin(6, 1), [])
            self.assertEqual(told_of(asker, KEYS), ["never", 1, [], sorted(KEYS), [0] * 7, None, 6, None, [("begin", 6, 1, ())]])
            self.assertEqual(asker.wake(100), [])
            self.assertEqual(asker.hear(100, true_one("ann")), "over")
            self.assertIs(asker.call_off(101), False)
            self.assertEqual((asker.state(), asker.ended()), ("never", 6))

    def test_numbers_that_are_none(self):
        asker = asker_of(any_of("ann"))
        for number in wrong_numbers():
            self.refuse(NoAsk, asker.begin, 0, number)
        self.assertEqual(told_of(asker, KEYS)[:2], ["idle", None])
        self.assertEqual(asker.begin(0, 0), ["ann"])
        told = told_of(asker, KEYS)
        for number in wrong_numbers() + [0]:
            self.refuse(NoAsk, asker.begin, 0, number)
        self.assertEqual(told_of(asker, KEYS), told)

    def test_a_number_that_isnt_greater(self):
        asker = asker_of(any_of("ann"))
        asker.begin(0, 5)
        for number in [0, 4, 5]:
            self.refuse(NoAsk, asker.begin, 0, number)
        asker.begin(0, 6)
        asker.begin(0, NINES)
        for number in [5, 6, 7, NINES]:
            self.refuse(NoAsk, asker.begin, 0, number)
        self.assertEqual(asker.number(), NINES)

    def test_an_ask_in_every_state_is_left_behind(self):
        for asker in Moments.askers(self):
            number = (asker.number() or 0) + 1
            self.assertEqual(asker.begin(33, number), ["ann", "bob"])
            self.assertEqual(told_of(asker, KEYS)[:8], ["open", number, [], sorted(KEYS), [1, 1, 0, 0, 0, 0, 0], None, None, 43])
            self.assertEqual(asker.hear(34, true_one("ann", number)), "ok")

    def test_who_was_given_up_or_said_no_is_out_again(self):
        asker = asker_of(any_of("ann", "bob", "cid"), 10, 1)
        asker.begin(0, 1)
        asker.hear(1, true_one("ann", value=None))
        asker.wake(10)
        self.assertEqual((asker.state(), asker.out()), ("never", ["dan", "eve", "u", "v"]))
        self.assertEqual(asker.begin(11, 2), ["ann", "bob", "cid"])
        self.assertEqual(asker.out(), sorted(KEYS))
        self.assertEqual(asker.due(), 21)


class Hearing(Refusals):
    def test_what_is_no_answer(self):
        asker = asker_of(any_of("ann"))
        for number in [1, 2]:
            told = told_of(asker, KEYS)
            for thing in odd_things() + [("ann", 1, 5, 0, 7), ["ann", 1, 5, 0, 7], {"name": "ann"}, Answer, any_of("ann")]:
                self.refuse(NoAnswer, asker.hear, 9, thing)
            self.assertEqual(told_of(asker, KEYS), told)
            asker.begin(3, number)

    def test_each_word(self):
        asker = asker_of(Both([all_of("ann", "bob"), Count(1, ["cid", "dan"])]))
        heard = [asker.hear(0, true_one("ann"))]
        asker.begin(0, 5)
        for answer in [true_one("ann", 6), true_one("ann", 4), false_one("ann", 5), true_one("ann", 5), true_one("ann", 5, 6),
                       true_one("cid", 5, None), true_one("bob", 5), true_one("dan", 5), true_one("cid", 5)]:
            heard.append(asker.hear(1, answer))
        asker.begin(2, 6)
        heard.append(asker.hear(2, true_one("bob", 6, None)))
        self.assertEqual(heard, ["idle", "strange", "elder", "false", "ok", "twice", "no", "ok", "done", "over", "never"])
        self.assertEqual(sorted(set(heard)), sorted(WORDS))

    def test_the_first_of_several_reasons(self):
        key = KEYS["ann"]
        for place in range(2):
            asker = asker_of(all_of("ann", "bob"))
            asker.begin(0, 5)
            asker.hear(0, true_one("ann", 5))
            if place:
                asker.hear(0, true_one("bob", 5))
            # a name that is none of keys, ahead of elder, false and over
            for ask in [4, 5, 6]:
                self.assertEqual(asker.hear(0, Answer("zed", ask, 1, 1, seal_of(1, ask, 1, 1))), "strange")
            self.assertEqual(asker.hear(0, false_one("ann", 6)), "strange")
            self.assertEqual(asker.hear(0, false_one("ann", 4)), "elder")
            self.assertEqual(asker.hear(0, true_one("ann", 4)), "elder")
            self.assertEqual(asker.hear(0, false_one("ann", 5)), "false")
            self.assertEqual(asker.hear(0, Answer("ann", 5, None, 0, seal_of(key, 5, 0, 0))), "false")
            self.assertEqual(asker.hear(0, true_one("ann", 5)), "over" if place else "twice")
            self.assertEqual(asker.hear(0, true_one("ann", 5, None)), "over" if place else "twice")

    def test_over_in_each_state_that_has_ended(self):
        for asker in Moments.askers(self):
            if asker.state() in ["done", "never", "off"]:
                told = told_of(asker, KEYS)
                self.assertEqual(asker.hear(20, true_one("cid")), "over")
                self.assertEqual(asker.hear(20, true_one("ann")), "over")
                self.assertEqual(asker.hear(20, false_one("ann")), "false")
                self.assertEqual(told_of(asker, KEYS)[:8], told[:8])

    def test_by_the_names_own_key(self):
        asker = asker_of(all_of("ann", "bob"))
        asker.begin(0, 1)
        self.assertEqual(asker.hear(0, Answer("ann", 1, 5, 0, seal_of(KEYS["bob"], 1, 5, 0))), "false")
        self.assertEqual(asker.hear(0, Answer("ann", 1, 5, 0, seal_of(KEYS["ann"], 1, 5, 0))), "ok")

    def test_twice_after_a_no(self):
        asker = asker_of(Count(1, ["ann", "bob"]))
        asker.begin(0, 1)
        self.assertEqual(asker.hear(0, true_one("ann", value=None)), "no")
        self.assertEqual(asker.hear(0, true_one("ann")), "twice")
        self.assertEqual(asker.hear(0, true_one("ann", value=None)), "twice")
        self.assertEqual((asker.row(), asker.out()), ([], ["bob", "cid", "dan", "eve", "u", "v"]))

    def test_counted_anew_in_each_ask(self):
        asker = asker_of(all_of("ann", "bob"))
        for number in [1, 2, 3]:
            asker.begin(number, number)
            self.assertEqual(asker.hear(number, true_one("ann", number)), "ok")
            self.assertEqual(asker.hear(number, true_one("ann", number)), "twice")
            self.assertEqual(asker.row(), ["ann"])

    def test_what_wasnt_counted_may_still_be(self):
        asker = asker_of(any_of("ann"))
        asker.begin(0, 1)
        for answer in [false_one("ann"), true_one("ann", 0), true_one("ann", 2)]:
            asker.hear(0, answer)
        self.assertEqual(asker.hear(0, true_one("ann")), "done")

    def test_the_value_0_is_no_no(self):
        asker = asker_of(any_of("ann"))
        asker.begin(0, 1)
        self.assertEqual(asker.hear(0, true_one("ann", value=0)), "done")
        self.assertEqual(asker.result(), 0)

    def test_the_order_counts(self):
        for first, second, words in [("ann", "bob", ["ok", "done"]), ("bob", "ann", ["never", "over"])]:
            asker = asker_of(Then(any_of("ann"), any_of("bob")))
            asker.begin(0, 1)
            self.assertEqual([asker.hear(3, true_one(first)), asker.hear(4, true_one(second))], words)
            self.assertEqual(asker.ended(), 4 if words[1] == "done" else 3)

    def test_a_name_that_the_wish_hasnt(self):
        asker = asker_of(all_of("ann", "bob"), rule="greatest")
        asker.begin(0, 1)
        self.assertEqual(asker.hear(0, true_one("u", value=9)), "ok")
        self.assertEqual(asker.hear(0, true_one("u", value=9)), "twice")
        self.assertEqual(asker.hear(0, true_one("v", value=None)), "no")
        self.assertEqual(asker.hear(0, true_one("ann", value=1)), "ok")
        self.assertEqual((asker.row(), asker.out()), (["u", "ann"], ["bob", "cid", "dan", "eve"]))
        self.assertEqual(asker.hear(0, true_one("bob", value=2)), "done")
        self.assertEqual(asker.result(), 9)

    def test_such_a_name_never_gets_a_letter(self):
        asker = asker_of(any_of("ann"), 1, 3)
        asker.begin(0, 1)
        self.assertEqual([asker.wake(moment) for moment in [1, 2, 3]], [["ann"], ["ann"], []])
        self.assertEqual((asker.asked("u"), asker.out()), (0, ["bob", "cid", "dan", "eve", "u", "v"]))

    def test_seven_names_in_the_row(self):
        asker = asker_of(Then(any_of("eve"), any_of("ann")))
        asker.begin(0, 1)
        for name in ["v", "u", "bob", "cid", "dan", "eve"]:
            self.assertEqual(asker.hear(0, true_one(name)), "ok")
        self.assertEqual(asker.hear(0, true_one("ann")), "done")
        self.assertEqual((asker.row(), asker.out()), (["v", "u", "bob", "cid", "dan", "eve", "ann"], []))

    def test_a_name_that_was_given_up(self):
        # All that are wanted were always asked together, so they are given up together, and the ask is over then.
        asker = asker_of(Either([all_of("ann", "bob"), all_of("ann", "cid")]), 10, 1)
        asker.begin(0, 1)
        asker.hear(5, true_one("cid"))
        self.assertEqual(asker.wake(9), [])
        self.assertEqual((asker.state(), asker.out()), ("open", ["ann", "bob", "dan", "eve", "u", "v"]))
        self.assertEqual(asker.wake(10), [])
        self.assertEqual((asker.state(), asker.out()), ("never", ["dan", "eve", "u", "v"]))
        self.assertEqual(asker.hear(11, true_one("ann")), "over")
        self.assertEqual(asker.hear(11, false_one("ann")), "false")
        self.assertEqual((asker.row(), asker.asked("ann")), (["cid"], 1))
        asker.begin(12, 2)
        self.assertEqual(asker.hear(12, true_one("ann", 1)), "elder")
        self.assertEqual(asker.hear(12, true_one("ann", 2)), "ok")
        self.assertEqual(asker.hear(12, true_one("bob", 2)), "done")

    def test_late_yet_ahead_of_being_given_up(self):
        asker = asker_of(all_of("ann", "bob"), 10, 1)
        asker.begin(0, 1)
        self.assertEqual(asker.hear(500, true_one("ann")), "ok")
        self.assertEqual(asker.hear(600, true_one("bob")), "done")


class Waking(unittest.TestCase):
    def test_a_pause_behind_and_one_minute_ahead(self):
        for pause in [1, 2, 60, NINES]:
            asker = asker_of(any_of("ann", "bob"), pause, 3)
            asker.begin(7, 1)
            self.assertEqual(asker.wake(7 + pause - 1), [])
            self.assertEqual(asker.wake(7 + pause), ["ann", "bob"])
            self.assertEqual(asker.wake(7 + pause), [])
            self.assertEqual(asker.wake(7 + 2 * pause - 1), [])
            self.assertEqual(asker.wake(7 + 5 * pause), ["ann", "bob"])
            self.assertEqual(asker.wake(7 + 6 * pause - 1), [])
            self.assertEqual(asker.state(), "open")
            self.assertEqual(asker.wake(7 + 6 * pause), [])
            self.assertEqual((asker.state(), asker.ended()), ("never", 7 + 6 * pause))
            self.assertEqual(asker.asked("ann"), 3)

    def test_once_and_no_more(self):
        asker = asker_of(any_of("ann"), 1, 1)
        asker.begin(0, 1)
        self.assertEqual((asker.wake(0), asker.state(), asker.asked("ann")), ([], "open", 1))
        self.assertEqual((asker.wake(1), asker.state(), asker.asked("ann")), ([], "never", 1))
        self.assertEqual(asker.out(), ["bob", "cid", "dan", "eve", "u", "v"])

    def test_nine_figures_of_times(self):
        asker = asker_of(any_of("ann"), 1, NINES)
        asker.begin(0, 1)
        for moment in range(1, 200):
            self.assertEqual(asker.wake(moment), ["ann"])
        self.assertEqual(asker.asked("ann"), 200)

    def test_the_wanted_ones_alone(self):
        asker = asker_of(Then(any_of("ann", "bob"), any_of("cid")), 10, 5)
        self.assertEqual(asker.begin(0, 1), ["ann", "bob", "cid"])
        self.assertEqual(asker.hear(1, true_one("ann")), "ok")
        self.assertEqual(asker.wake(10), ["cid"])
        self.assertEqual(asker.asked("bob"), 1)
        self.assertEqual(asker.out(), ["bob", "cid", "dan", "eve", "u", "v"])

    def test_who_is_wanted_no_more_is_given_up_too(self):
        asker = asker_of(Then(any_of("ann", "bob"), any_of("cid")), 10, 1)
        asker.begin(0, 1)
        asker.hear(1, true_one("ann"))
        self.assertEqual(asker.wake(10), [])
        self.assertEqual((asker.state(), asker.out()), ("never", ["dan", "eve", "u", "v"]))

    def test_all_are_given_up_at_once(self):
        wish = Either([Then(any_of("ann"), any_of("dan")), Then(any_of("bob"), any_of("cid")), any_of("eve")])
        asker = asker_of(wish, 10, 2)
        self.assertEqual(asker.begin(0, 1), FIVE)
        self.assertEqual(asker.wake(10), FIVE)
        self.assertEqual(asker.hear(11, true_one("eve", value=None)), "no")
        self.assertEqual(asker.hear(11, true_one("bob")), "ok")
        self.assertEqual(asker.wake(20), [])
        self.assertEqual((asker.state(), asker.ended()), ("never", 20))

    def test_nothing_happens_unless_open(self):
        for asker in Moments.askers(self):
            if asker.state() != "open":
                told = told_of(asker, KEYS)
                self.assertEqual(asker.wake(NINES), [])
                self.assertEqual(told_of(asker, KEYS)[:8], told[:8])
                self.assertEqual(asker.book(), told[8] + [("wake", NINES, ())])

    def test_letters_at_moments_of_their_own(self):
        # bob's letter of 10 is the last one; ann answers with a no
        asker = asker_of(any_of("ann", "bob"), 10, 2)
        asker.begin(0, 1)
        asker.hear(3, true_one("ann", value=None))
        self.assertEqual(asker.wake(14), ["bob"])
        self.assertEqual(asker.due(), 24)
        self.assertEqual(asker.wake(23), [])
        self.assertEqual(asker.wake(24), [])
        self.assertEqual(asker.state(), "never")


class Due(unittest.TestCase):
    def test_in_every_state(self):
        for asker in Moments.askers(self):
            self.assertEqual(asker.due(), 30 if asker.state() == "open" else None)

    def test_not_below_the_last_deed(self):
        asker = asker_of(any_of("ann"), 10, 3)
        asker.begin(0, 1)
        self.assertEqual(asker.due(), 10)
        asker.hear(9, true_one("ann", 0))
        self.assertEqual(asker.due(), 10)
        asker.hear(10, true_one("ann", 0))
        self.assertEqual(asker.due(), 10)
        asker.hear(17, true_one("ann", 0))
        self.assertEqual(asker.due(), 17)
        asker.wake(17)
        self.assertEqual(asker.due(), 27)

    def test_by_the_last_letters(self):
        asker = asker_of(Then(any_of("ann", "bob"), any_of("cid")), 10, 2)
        asker.begin(0, 1)
        asker.hear(1, true_one("ann"))
        asker.wake(10)
        self.assertEqual(asker.due(), 20)
        # bob was asked once alone, and is wanted no more: nothing is due for him
        asker = asker_of(Then(any_of("ann", "bob"), any_of("cid")), 10, 2)
        asker.begin(0, 1)
        asker.hear(1, true_one("ann"))
        asker.wake(15)
        self.assertEqual(asker.due(), 25)
        # asked as often as told, he is given up together with cid
        asker = asker_of(Then(any_of("ann", "bob"), any_of("cid")), 10, 2)
        asker.begin(0, 1)
        self.assertEqual(asker.wake(12), ["ann", "bob", "cid"])
        asker.hear(13, true_one("ann"))
        self.assertEqual(asker.due(), 22)

    def test_telling_writes_nothing(self):
        asker = asker_of(any_of("ann"), 10, 3)
        asker.begin(0, 1)
        told = told_of(asker, KEYS)
        for k in range(3):
            self.assertEqual(told_of(asker, KEYS), told)


class CalledOff(unittest.TestCase):
    def test_in_every_state(self):
        for asker in Moments.askers(self):
            state, ended = asker.state(), asker.ended()
            self.assertIs(asker.call_off(25), state == "open")
            self.assertEqual(asker.state(), "off" if state == "open" else state)
            self.assertEqual(asker.ended(), 25 if state == "open" else ended)
            self.assertEqual(asker.book()[-1], ("off", 25, state == "open"))
            self.assertIs(asker.call_off(26), False)
            self.assertEqual(asker.ended(), 25 if state == "open" else ended)
            self.assertIsNone(asker.due())

    def test_a_new_ask_behind_it(self):
        asker = asker_of(any_of("ann"))
        asker.begin(0, 1)
        asker.call_off(1)
        self.assertEqual(asker.wake(50), [])
        self.assertEqual(asker.begin(51, 2), ["ann"])
        self.assertEqual(asker.hear(51, true_one("ann", 1)), "elder")
        self.assertEqual(asker.hear(51, true_one("ann", 2)), "done")
        self.assertEqual((asker.ended(), asker.result()), (51, 5))

    def test_row_and_out_stay(self):
        asker = asker_of(all_of("ann", "bob"))
        asker.begin(0, 1)
        asker.hear(0, true_one("ann"))
        asker.call_off(1)
        self.assertEqual((asker.row(), asker.out(), asker.number()), (["ann"], ["bob", "cid", "dan", "eve", "u", "v"], 1))
        self.assertIsNone(asker.result())


class Told(unittest.TestCase):
    def test_the_value_by_each_rule(self):
        came = [("ann", 4, 9), ("u", 4, 1), ("bob", 2, 9), ("v", 9, 3), ("cid", 7, 2)]
        for rule, value in [("most", 4), ("newest", 4), ("least", 2), ("greatest", 9), ("middle", 4)]:
            asker = asker_of(all_of("ann", "bob", "cid"), rule=rule)
            asker.begin(0, 1)
            asker.hear(0, true_one("dan", value=None, stamp=99))
            for name, told, stamp in came:
                self.assertIsNone(asker.result())
                word = asker.hear(0, true_one(name, 1, told, stamp))
            self.assertEqual((word, asker.result()), ("done", value))
            asker.wake(99)
            asker.hear(99, true_one("eve", 1, 100, 100))
            self.assertEqual(asker.result(), value)
            asker.begin(100, 2)
            self.assertIsNone(asker.result())

    def test_how_often_of_anything(self):
        asker = asker_of(any_of("ann"), 1, 9)
        asker.begin(0, 1)
        asker.wake(1)
        self.assertEqual([asker.asked(name) for name in ["ann", "bob", "u", "zed"]], [2, 0, 0, 0])
        for thing in odd_things() + [["ann"], ("ann",), {"ann": 1}, b"ann", 1, true_one("ann")]:
            self.assertEqual(asker.asked(thing), 0)
        asker.begin(2, 2)
        self.assertEqual(asker.asked("ann"), 1)

    def test_lists_and_dicts_are_their_own(self):
        keys = dict(KEYS)
        wish = Both([Count(2, ["ann", "bob"])])
        before = told_fields(wish)
        asker = Asker(wish, keys, "most", 10, 2)
        keys.clear()
        keys["zed"] = 5
        doc = DocAsker(wish, KEYS, "most", 10, 2)
        steps = [("begin", (0, 1)), ("hear", (1, true_one("ann"))), ("wake", (10,)), ("hear", (11, true_one("u"))), ("wake", (20,))]
        for way, handed in steps:
            told = getattr(asker, way)(*handed)
            self.assertEqual(told, getattr(doc, way)(*handed))
            for some in [told, asker.row(), asker.out(), asker.book()]:
                if isinstance(some, list):
                    some.append("spoilt")
                    some.reverse()
            self.assertEqual(told_of(asker, KEYS), doc.told())
            for row in asker.book():
                self.assertIs(type(row), tuple)
        self.assertEqual(told_fields(wish), before)

    def test_what_is_handed_in_stays(self):
        keys = dict(KEYS)
        asker = Asker(any_of("ann"), keys, "most", 10, 2)
        answer = true_one("ann")
        before = dict(vars(answer))
        asker.begin(0, 1)
        asker.hear(0, answer)
        self.assertEqual((keys, vars(answer)), (KEYS, before))

    def test_two_askers_beside_one_another(self):
        wish = any_of("ann", "bob")
        one, other = Asker(wish, KEYS, "most", 1, 1), Asker(wish, KEYS, "least", 5, 5)
        one.begin(3, 3)
        self.assertEqual((other.state(), other.book()), ("idle", []))
        other.begin(0, 0)
        one.hear(4, true_one("ann", 3))
        self.assertEqual((one.state(), other.state(), other.row()), ("done", "open", []))


class Book(unittest.TestCase):
    def test_each_row(self):
        asker = asker_of(Either([all_of("bob", "ann"), any_of("cid")]))
        asker.hear(0, Answer("zed", 0, 0, 0, 0))
        asker.begin(1, 4)
        asker.hear(2, true_one("ann", 4, None, 7))
        asker.wake(11)
        asker.wake(12)
        asker.call_off(13)
        asker.call_off(13)
        self.assertEqual(asker.book(), [
            ("hear", 0, "zed", 0, 0, 0, 0, "idle"),
            ("begin", 1, 4, ("ann", "bob", "cid")),
            ("hear", 2, "ann", 4, None, 7, seal_of(11, 4, None, 7), "no"),
            ("wake", 11, ("cid",)),
            ("wake", 12, ()),
            ("off", 13, True),
            ("off", 13, False),
        ])
        for row in asker.book():
            for part in row:
                self.assertIn(type(part), (str, int, tuple, bool, type(None)))


class AsTheDocumentSays(unittest.TestCase):
    def test_by_chance(self):
        chance = random.Random(71)
        wishes = small_wishes(72, 40) + [never()]
        words = {}
        for run in range(250):
            things = some_things(chance, wishes)
            asker, doc = Asker(*things), DocAsker(*things)

            def each(way, handed, told):
                said = getattr(doc, way)(*handed)
                self.assertEqual((told, type(told)), (said, type(said)))
                self.assertEqual(told_of(asker, things[1]), doc.told())
                words[str(told)] = words.get(str(told), 0) + 1

            run_by_chance(chance, things, asker, 30, each)
        for word in WORDS:
            self.assertGreater(words[word], 20, word)


if __name__ == "__main__":
    unittest.main()
