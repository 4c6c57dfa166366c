"""Stage 10: the desk."""

import random
import unittest

from enoughsaid.answers import Answer, seal_of
from enoughsaid.asker import Asker
from enoughsaid.desk import Desk
from enoughsaid.errors import EnoughError, NoAsk, NoRow, NoRule, NoText, NoTime, NoWish
from enoughsaid.judge import judged
from enoughsaid.sets import least_blockers, least_sets
from enoughsaid.texts import show_book, show_wish
from enoughsaid.ways import wanted
from enoughsaid.wishes import holds
from tests.doc_asker import run_by_chance, small_wishes, some_things
from tests.helper import FIVE, Sour, any_of, odd_things, rows_of, some_wishes

KEEP = ["wish ( count 1 ann > count 1 bob cid )", "key ann 11", "key bob 22", "key cid 33", "key u 44"]
KEYS = {"ann": 11, "bob": 22, "cid": 33, "u": 44}

# Rows that are right whatever was told ahead, but for what they want.
OF_ASKER = ["begin 0 1", "wake 0", "hear 0 ann 1 5 0 7", "hear 0 ann 1 - 0 7", "off 0", "state", "row", "out", "asked ann", "due",
            "value", "book"]
OF_WISH = ["open", "judge\n", "judge\nwake 1", "wanted", "least", "blockers", "holds", "holds ann", "holds ann bob", "holds ann ann"]
KEPT = ["key ann 5", "rule most", "pause 5", "times 5", "wish count 1 ann"]

NO_ROWS = [
    "", " ", "\n", "-", "ok", "help", "wish", "wish\n", "wish\ncount 1 a", "Wish count 1 a", "wishcount 1 a", " wish count 1 a",
    "key", "key ann", "key ann ", "key 5", "key ann five", "key ann 05", "key ann 5 5", "key ann 5 ", "key  ann 5", "key ann  5",
    " key ann 5", "key Ann 5", "key ann -5", "key ann -", "key ann 12345678901", "key abcdefghi 5", "key 5 ann", "key ann 5\n", "keys ann 5",
    "rule", "rule ", "rule Most", "rule 5", "rule most most", "rule most ", "rule  most", "rule -", "rule abcdefghi", "rule most\n",
    "pause", "pause ", "pause -", "pause five", "pause 05", "pause 5 5", "pause 5 ", "pause -5", "pause 12345678901", "pause 00",
    "times", "times ", "times -", "times x", "times 03", "times 3 3", "times 3 ", "times +3", "times 12345678901",
    "open ", " open", "open 1", "open ann", "Open", "open\n",
    "begin", "begin 1", "begin 1 ", "begin 1 1 ", "begin 1 1 1", "begin 1 1 ann", "begin 01 1", "begin 1 01", "begin  1 1", "begin 1  1",
    "begin - 1", "begin 1 -", "begin a 1", "begin 1 a", "begin 12345678901 1", "begin 1 12345678901",
    "wake", "wake ", "wake -", "wake a", "wake 1 1", "wake 1 ann", "wake 01", "wake 1 ", "wake  1",
    "hear", "hear 1", "hear 1 ann 1 1 1", "hear 1 ann 1 1 1 1 1", "hear 1 ann 1 1 1 1 ok", "hear 1 ann 1 1 1 1 ", "hear 01 ann 1 1 1 1",
    "hear 1 Ann 1 1 1 1", "hear 1 1 1 1 1 1", "hear 1 ann 01 1 1 1", "hear 1 ann 1 01 1 1", "hear 1 ann 1 1 01 1", "hear 1 ann 1 1 1 01",
    "hear - ann 1 1 1 1", "hear 1 - 1 1 1 1", "hear 1 ann - 1 1 1", "hear 1 ann 1 1 - 1", "hear 1 ann 1 1 1 -", "hear 1 ann 1 -- 1 1",
    "hear 1 ann 1 None 1 1", "hear 1 ann 1 -1 1 1", "hear 1 ann 1  1 1 1",
    "off", "off ", "off -", "off a", "off 1 1", "off 1 yes", "off 01", "off 1 ",
    "state ", "state 1", "state ann", " state", "State", "state\n", "row ", "row ann", "row 1", "rows", "out ", "out ann", "out 1",
    "asked", "asked ", "asked Ann", "asked 1", "asked -", "asked ann bob", "asked ann ", "asked  ann", "asked abcdefghi",
    "due ", "due 1", "value ", "value 1", "value ann", "book ", "book 1", "book\n", "book\nwake 1", "result", "number", "ended",
    "judge", "judge ", "judge \n", "judge wake 1", " judge\n", "judgement\n", "Judge\n", "judge  \nwake 1",
    "wanted ", "wanted ann", "least ", "least ann", "least 1", "blockers ", "blockers 1", "holds ", "holds 1", "holds Ann", "holds ann ",
    "holds  ann", "holds ann  bob", "holds -", "holds ann 1", "holds ann,bob", "holds ann\n", "holds abcdefghi", "hold ann",
    "state\nstate", "key ann 5\nkey bob 6",
]


def desk_of(*rows):
    desk = Desk()
    for row in rows:
        desk.say(row)
    return desk


def everything(desk):
    """All that a desk tells, or the class with which it refuses to."""
    told = []
    for row in ["state", "row", "out", "due", "value", "book", "wanted", "least", "blockers", "holds"] + [
            "asked " + name for name in FIVE]:
        try:
            told.append(desk.say(row))
        except EnoughError as refused:
            told.append(type(refused))
    return told


def hear(moment, name, ask=1, value=5, stamp=0, keys=KEYS):
    told = "-" if value is None else value
    return f"hear {moment} {name} {ask} {told} {stamp} {seal_of(keys[name], ask, value, stamp)}"


class Base(unittest.TestCase):
    def say(self, desk, *pairs):
        for row, answer in pairs:
            told = desk.say(row)
            self.assertEqual((told, type(told)), (answer, str), row)

    def refuse(self, kind, desk, row):
        with self.assertRaises(EnoughError) as caught:
            desk.say(row)
        self.assertIs(type(caught.exception), kind, repr(row))
        self.assertIsInstance(caught.exception, ValueError)
        return caught.exception


class Rows(Base):
    def test_an_ask_that_is_done(self):
        self.say(
            Desk(),
            ("wish ( count 1 ann > count 1 bob cid )", "ok"), ("key ann 11", "ok"), ("key bob 22", "ok"), ("key cid 33", "ok"), ("key u 44", "ok"),
            ("rule greatest", "ok"), ("pause 10", "ok"), ("times 2", "ok"), ("open", "ok"), ("state", "idle"), ("row", "-"),
            ("out", "ann bob cid u"), ("due", "-"), ("value", "-"), ("asked ann", "0"), ("asked zed", "0"), ("book", ""),
            (hear(1, "ann"), "idle"), ("wake 1", "-"), ("off 2", "no"), ("begin 5 1", "ann bob cid"), ("state", "open"),
            ("asked ann", "1"), ("asked u", "0"), ("due", "15"), (hear(6, "u", value=0), "ok"), (hear(6, "ann"), "ok"), (hear(6, "ann"), "twice"),
            (hear(6, "bob", value=None), "no"), (hear(6, "bob", 2), "strange"), (hear(6, "bob", 0), "elder"), ("hear 6 bob 1 1 1 1", "false"),
            ("row", "u ann"), ("out", "cid"), ("wake 14", "-"), ("wake 15", "cid"), ("asked cid", "2"), ("due", "25"), ("value", "-"),
            (hear(20, "cid", value=7), "done"), ("state", "done"), ("value", "7"), ("due", "-"), ("row", "u ann cid"), ("out", "-"),
            (hear(21, "cid"), "over"), ("off 22", "no"), ("begin 23 9", "ann bob cid"), ("off 24", "yes"), ("state", "off"), ("row", "-"),
            ("begin 25 10", "ann bob cid"), (hear(26, "ann", 10, None), "never"), ("state", "never"))

    def test_the_book(self):
        desk = desk_of(*KEEP, "pause 10", "open", "begin 5 1", hear(6, "ann", value=None), "wake 7", "off 8")
        seal = seal_of(11, 1, None, 0)
        book = f"begin 5 1 ann bob cid\nhear 6 ann 1 - 0 {seal} never\nwake 7\noff 8 no"
        self.say(desk, ("book", book), ("judge\n" + book, "right"), ("judge\n", "right"), ("judge\nwake 1", "right"),
                 ("judge\nwake 1 ann", "0"), ("judge\n" + book + "\nwake 7", "4"), ("judge\noff 1 no\noff 1 yes", "1"))

    def test_at_first(self):
        desk = desk_of(*KEEP, "open", "begin 0 1")
        self.say(desk, ("due", "60"), ("wake 59", "-"), ("wake 60", "ann bob cid"), ("wake 120", "ann bob cid"), ("wake 180", "-"),
                 ("state", "never"), ("asked bob", "3"))
        # most: of 1, 2, 2, 9 it is 2
        desk = desk_of("wish count 4 ann bob cid u", *KEEP[1:], "open", "begin 0 1", hear(0, "ann", value=1), hear(0, "bob", value=2),
                       hear(0, "cid", value=9, stamp=9), hear(0, "u", value=2))
        self.say(desk, ("value", "2"))

    def test_the_value_0_and_the_moment_0(self):
        desk = desk_of("wish count 1 ann", "key ann 11", "open", "begin 0 0", hear(0, "ann", 0, 0))
        self.say(desk, ("value", "0"), ("asked ann", "1"))

    def test_each_rule(self):
        for rule, value in [("most", "4"), ("newest", "9"), ("least", "1"), ("greatest", "9"), ("middle", "4")]:
            desk = desk_of("wish count 4 ann bob cid u", *KEEP[1:], "rule " + rule, "open", "begin 0 1", hear(0, "ann", value=4),
                           hear(0, "bob", value=1), hear(0, "cid", value=9, stamp=2), hear(0, "u", value=4))
            self.say(desk, ("value", value))

    def test_of_the_wish_alone(self):
        desk = desk_of("wish ( count 1 ann | ( count 1 cid > count 1 bob ) )")
        self.say(desk, ("wanted", "ann bob cid"), ("least", "ann; bob cid"), ("blockers", "ann bob; ann cid"), ("holds", "no"), ("holds ann", "yes"),
                 ("holds bob cid", "no"), ("holds cid bob", "yes"), ("holds zed cid dan bob", "yes"))
        self.refuse(NoRow, desk, "holds ann ann")
        desk = desk_of("wish ( count 1 ann > count 1 ann )")
        self.say(desk, ("wanted", "-"), ("least", "-"), ("blockers", "-"), ("holds ann", "no"))

    def test_of_wishes_by_chance(self):
        chance = random.Random(101)
        for wish in some_wishes(102, 25):
            desk = desk_of("wish " + show_wish(wish))
            self.say(desk, ("wanted", " ".join(wanted(wish, [], wish.names_in())) or "-"),
                     ("least", "; ".join([" ".join(names) or "-" for names in least_sets(wish)]) or "-"),
                     ("blockers", "; ".join([" ".join(names) or "-" for names in least_blockers(wish)]) or "-"))
            for row in chance.sample(rows_of(FIVE), 10):
                self.say(desk, (" ".join(["holds"] + row), "yes" if holds(wish, row) else "no"))

    def test_as_the_asker_by_chance(self):
        chance = random.Random(103)
        wishes = small_wishes(104, 15)
        for run in range(40):
            things = some_things(chance, wishes)
            wish, keys, rule, pause, times = things
            asker = Asker(*things)
            desk = desk_of("wish " + show_wish(wish), *[f"key {name} {key}" for name, key in keys.items()], f"rule {rule}",
                           f"pause {pause}", f"times {times}", "open")

            def each(way, handed, told):
                self.say(desk, self.as_row(way, handed, told), ("state", asker.state()), ("row", " ".join(asker.row()) or "-"),
                         ("out", " ".join(asker.out()) or "-"), ("due", self.or_dash(asker.due())),
                         ("value", self.or_dash(asker.result())), ("book", show_book(asker.book())))
                for name in list(keys) + ["zed"]:
                    self.say(desk, ("asked " + name, str(asker.asked(name))))

            run_by_chance(chance, things, asker, 15, each)
            book = asker.book()
            self.say(desk, ("judge\n" + show_book(book), "right"))
            spoilt = book[1:]
            place = judged(*things, spoilt)
            self.say(desk, ("judge\n" + show_book(spoilt), "right" if place is None else str(place)))

    def as_row(self, way, handed, told):
        if way == "hear":
            answer = handed[1]
            return (f"hear {handed[0]} {answer.name} {answer.ask} {self.or_dash(answer.value)} {answer.stamp} {answer.seal}", told)
        if way == "call_off":
            return f"off {handed[0]}", "yes" if told else "no"
        return " ".join([way] + [str(number) for number in handed]), " ".join(told) or "-"

    def or_dash(self, thing):
        return "-" if thing is None else str(thing)


class Kept(Base):
    def test_the_later_one(self):
        desk = desk_of("wish count 1 zed", "wish count 1 ann bob", "key ann 5", "key ann 6", "key bob 7", "key ann 11", "key bob 22", "rule most",
                       "rule least", "pause 5", "pause 7", "times 9", "times 1", "open", "begin 0 1")
        self.say(desk, ("due", "7"), ("wake 6", "-"), (hear(6, "ann", value=9), "done"), ("value", "9"), ("begin 7 2", "ann bob"), ("wake 14", "-"),
                 ("state", "never"))

    def test_what_is_none_is_refused_at_opening_alone(self):
        for row, kind in [("key ann 0", NoAsk), ("key ann 1000003", NoAsk), ("key u 0", NoAsk), ("rule sum", NoRule), ("pause 0", NoAsk),
                          ("times 0", NoAsk), ("wish count 1 zed", NoAsk)]:
            desk = desk_of(*KEEP)
            self.say(desk, (row, "ok"))
            self.refuse(kind, desk, "open")
            self.refuse(kind, desk, "judge\n")
            self.refuse(NoAsk, desk, "state")

    def test_mended_behind_a_refusal(self):
        desk = desk_of(*KEEP, "rule sum", "pause 0")
        self.refuse(NoRule, desk, "open")
        self.say(desk, ("rule middle", "ok"))
        self.refuse(NoAsk, desk, "open")
        self.say(desk, ("pause 1", "ok"), ("open", "ok"), ("state", "idle"))

    def test_in_the_order_of_the_asker(self):
        spoilers = ["wish count 1 zed", "rule sum", "pause 0", "times 0"]
        for many in range(4):
            desk = desk_of(*KEEP, *spoilers[many:])
            self.refuse([NoAsk, NoRule, NoAsk, NoAsk][many], desk, "open")
        desk = desk_of("key ann 0", "rule sum", "pause 0", "times 0")
        self.refuse(NoWish, desk, "open")

    def test_more_than_seven_keys(self):
        desk = desk_of(*KEEP, *["key " + name + " 5" for name in ["v", "w", "x"]])
        self.say(desk, ("open", "ok"), ("out", "ann bob cid u v w x"), ("key y 5", "ok"))
        self.refuse(NoAsk, desk, "open")
        self.say(desk, ("out", "ann bob cid u v w x"))

    def test_no_key(self):
        self.refuse(NoAsk, desk_of("wish count 1 ann"), "open")

    def test_behind_an_opening_is_for_the_next(self):
        desk = desk_of(*KEEP, "pause 10", "times 1", "open", "begin 0 1")
        self.say(desk, ("wish count 1 u", "ok"), ("key ann 99", "ok"), ("key zed 5", "ok"), ("rule least", "ok"), ("pause 3", "ok"), ("times 7", "ok"),
                 ("due", "10"), ("out", "ann bob cid u"), (hear(1, "ann"), "ok"), (hear(1, "u"), "ok"), ("wake 3", "-"), ("wake 10", "-"), ("state", "never"),
                 ("wanted", "u"), ("open", "ok"), ("state", "idle"), ("out", "ann bob cid u zed"), ("book", ""), ("begin 0 0", "u"), ("due", "3"),
                 ("wake 3", "u"), ("wake 6", "u"))

    def test_judging_by_what_is_kept_then(self):
        desk = desk_of(*KEEP, "pause 10", "open", "begin 0 1", "wake 10")
        book = desk.say("book")
        self.say(desk, ("judge\n" + book, "right"), ("pause 11", "ok"), ("judge\n" + book, "1"), ("pause 10", "ok"), ("times 1", "ok"),
                 ("judge\n" + book, "1"), ("times 2", "ok"), ("judge\n" + book, "right"), ("wish count 1 ann", "ok"), ("judge\n" + book, "0"),
                 ("book", book), ("state", "open"))

    def test_judging_wants_no_asker(self):
        desk = desk_of(*KEEP)
        self.say(desk, ("judge\nbegin 0 1 ann bob cid", "right"), ("judge\nbegin 0 1", "0"))
        self.refuse(NoAsk, desk, "state")

    def test_a_wish_behind_the_opening_and_what_is_told_of_it(self):
        desk = desk_of(*KEEP, "open")
        self.say(desk, ("wish count 1 bob", "ok"), ("least", "bob"), ("holds bob", "yes"), ("begin 0 1", "ann bob cid"))

    def test_two_desks(self):
        one, other = Desk(), Desk()
        for row in KEEP + ["pause 5", "rule least", "times 1", "open", "begin 3 3"]:
            one.say(row)
        self.refuse(NoAsk, other, "state")
        self.refuse(NoWish, other, "wanted")
        self.say(other, ("wish count 1 u", "ok"), ("key u 1", "ok"), ("open", "ok"), ("begin 0 0", "u"), ("due", "60"), ("out", "u"))
        self.say(one, ("due", "8"), ("out", "ann bob cid u"), ("wanted", "ann bob cid"))


class Refused(Base):
    def desks(self):
        return [Desk(), desk_of(*KEEP), desk_of(*KEEP, "open"), desk_of(*KEEP, "open", "begin 5 5", hear(5, "u", 5))]

    def test_what_is_no_row(self):
        for desk in self.desks():
            told = everything(desk)
            for row in NO_ROWS:
                self.refuse(NoRow, desk, row)
            self.assertEqual(everything(desk), told)

    def test_what_is_no_text(self):
        for desk in self.desks():
            for thing in odd_things() + [Sour(), b"state", ["state"], ("state",), 5, any_of("a")]:
                if not isinstance(thing, str):
                    self.refuse(NoRow, desk, thing)

    def test_odd_texts(self):
        for thing in odd_things():
            if isinstance(thing, str):
                self.refuse(NoRow, self.desks()[3], thing)

    def test_what_wants_an_asker(self):
        for desk in [Desk(), desk_of("wish count 1 ann", "key ann 5"), desk_of(*KEPT)]:
            for row in OF_ASKER:
                self.refuse(NoAsk, desk, row)

    def test_what_wants_a_wish(self):
        for desk in [Desk(), desk_of("key ann 5", "rule sum", "pause 0")]:
            for row in OF_WISH + ["judge\nno row", "judge\n\n"]:
                self.refuse(NoWish, desk, row)

    def test_what_wants_nothing(self):
        for row in KEPT:
            self.say(Desk(), (row, "ok"))

    def test_texts_that_cant_be_read(self):
        for desk in self.desks():
            told = everything(desk)
            for text, at in [("", 0), ("count", 1), ("count 1 a /", 3), ("( count 1 a )", 4), (" count 1 a", 0), ("count 1 a\n", 2)]:
                self.assertEqual(self.refuse(NoText, desk, "wish " + text).at, at)
            for text in ["count 2 a", "( & ( & ( & ( & count 1 a ) ) ) )", "count 1 a b c d e f"]:
                self.refuse(NoWish, desk, "wish " + text)
            self.assertEqual(everything(desk), told)
        for desk in self.desks()[1:]:
            for text, at in [("\n", 0), ("wake", 0), ("wake 1\n", 1), ("wake 1\nwake 01", 1), ("wake 1\nwake 2\nstate", 2)]:
                self.assertEqual(self.refuse(NoText, desk, "judge\n" + text).at, at)

    def test_a_text_that_cant_be_read_ahead_of_what_is_kept(self):
        for row in ["key ann 0", "rule sum", "pause 0", "times 0"]:
            self.refuse(NoText, desk_of(*KEEP, row), "judge\nwake")

    def test_as_the_stages_do(self):
        desk = desk_of(*KEEP, "open", "begin 5 5")
        told = everything(desk)
        for row in ["begin 4 6", "begin 4 5", "wake 4", "off 4", "hear 4 ann 5 5 0 0", "wake 0"]:
            self.refuse(NoTime, desk, row)
        for row in ["begin 5 5", "begin 6 4", "begin 99 0"]:
            self.refuse(NoAsk, desk, row)
        self.refuse(NoRow, desk, "holds ann bob ann")
        self.assertEqual(everything(desk), told)
        self.say(desk, ("wake 5", "-"))

    def test_an_opening_that_is_refused_leaves_the_asker(self):
        desk = desk_of(*KEEP, "open", "begin 5 5", "rule sum")
        told = everything(desk)
        self.refuse(NoRule, desk, "open")
        self.assertEqual(everything(desk), told)
        self.assertEqual(told[0], "open")

    def test_a_wish_that_is_refused_leaves_the_last(self):
        desk = desk_of("wish count 1 ann")
        for row in ["wish count", "wish count 2 ann", "wish"]:
            self.assertRaises(EnoughError, desk.say, row)
        self.say(desk, ("least", "ann"))

    def test_numbers_of_ten_figures(self):
        desk = desk_of(*KEEP, "pause 9999999999", "times 9999999999", "open", "begin 9999999999 9999999999")
        self.say(desk, ("due", "19999999998"), ("hear 9999999999 ann 9999999999 9999999999 9999999999 9999999999", "false"))


class Answers(Base):
    def test_answers_are_heard_as_they_were_said(self):
        desk = desk_of(*KEEP, "open", "begin 0 3")
        answer = Answer("ann", 3, 8, 2, seal_of(11, 3, 8, 2))
        self.say(desk, (f"hear 4 ann 3 8 2 {answer.seal}", "ok"), ("book", f"begin 0 3 ann bob cid\nhear 4 ann 3 8 2 {answer.seal} ok"))


if __name__ == "__main__":
    unittest.main()
