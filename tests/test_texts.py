"""Stage 9: texts of wishes and of books."""

import itertools
import random
import unittest

from enoughsaid.alike import parted
from enoughsaid.asker import Asker
from enoughsaid.errors import EnoughError, NoText, NoWish
from enoughsaid.texts import read_book, read_wish, show_book, show_wish
from enoughsaid.wishes import Both, Count, Either, Houses, Then, Weigh
from tests.doc_asker import run_by_chance, small_wishes, some_things
from tests.doc_texts import doc_at
from tests.helper import FIVE, Sour, all_of, any_of, deepened, odd_things, ring, some_wishes, told_fields

WORDS = ["idle", "strange", "elder", "false", "over", "twice", "done", "never", "no", "ok"]

A = any_of("a")
B = any_of("b")
C = any_of("c")

WRITTEN = [
    (Count(2, ["bob", "ann", "cid"]), "count 2 bob ann cid"),
    (A, "count 1 a"),
    (Weigh(5, [("bob", 2), ("ann", 3)]), "weigh 5 bob 2 ann 3"),
    (Weigh(5000000000, [(name, 10 ** 9) for name in FIVE]),
     "weigh 5000000000 ann 1000000000 bob 1000000000 cid 1000000000 dan 1000000000 eve 1000000000"),
    (Houses(1, 1, [["a"]]), "houses 1 1 a"),
    (Houses(2, 2, [["b", "a"], ["a", "c", "b"], ["c", "d"]]), "houses 2 2 b a / a c b / c d"),
    (Both([A, B]), "( count 1 a & count 1 b )"),
    (Both([A, B, C]), "( count 1 a & count 1 b & count 1 c )"),
    (Either([A, B]), "( count 1 a | count 1 b )"),
    (Either([A, B, C, A, A]), "( count 1 a | count 1 b | count 1 c | count 1 a | count 1 a )"),
    (Then(A, B), "( count 1 a > count 1 b )"),
    (Both([A]), "( & count 1 a )"),
    (Either([A]), "( | count 1 a )"),
    (Both([Both([A])]), "( & ( & count 1 a ) )"),
    (Either([Both([A]), Then(B, Either([C]))]), "( ( & count 1 a ) | ( count 1 b > ( | count 1 c ) ) )"),
    (Then(Then(A, B), Both([C, A])), "( ( count 1 a > count 1 b ) > ( count 1 c & count 1 a ) )"),
    (all_of("count", "weigh", "houses"), "count 3 count weigh houses"),
    (Weigh(1, [("count", 1), ("weigh", 2), ("houses", 3)]), "weigh 1 count 1 weigh 2 houses 3"),
    (Houses(1, 1, [["houses"], ["count", "weigh"]]), "houses 1 1 houses / count weigh"),
    (Both([any_of("count"), Weigh(1, [("houses", 1)])]), "( count 1 count & weigh 1 houses 1 )"),
    (Both([A, A, A]), "( count 1 a & count 1 a & count 1 a )"),
]


class Refusals(unittest.TestCase):
    def refuse(self, kind, way, *handed):
        with self.assertRaises(EnoughError) as caught:
            way(*handed)
        self.assertIs(type(caught.exception), kind, handed)
        self.assertIsInstance(caught.exception, ValueError)
        return caught.exception

    def refuse_at(self, at, way, *handed):
        told = self.refuse(NoText, way, *handed).at
        self.assertEqual((told, type(told)), (at, type(at)), handed)


class Wishes(unittest.TestCase):
    def test_each_kind(self):
        for wish, text in WRITTEN:
            self.assertEqual(show_wish(wish), text)
            self.assertEqual(told_fields(read_wish(text)), told_fields(wish))

    def test_kinds_of_the_fields(self):
        wish = read_wish("( weigh 1 a 1 > houses 1 1 a / b )")
        self.assertEqual((wish.one.pairs, wish.other.houses), ([("a", 1)], [["a"], ["b"]]))
        self.assertIs(type(wish.one.pairs[0]), tuple)

    def test_read_again_by_chance(self):
        for wish in some_wishes(91, 200) + some_wishes(92, 50, ["count", "weigh", "houses", "a"]):
            text = show_wish(wish)
            again = read_wish(text)
            self.assertEqual(told_fields(again), told_fields(wish))
            self.assertEqual(show_wish(again), text)
            self.assertIsNone(doc_at(text.split(" ")))
        for wish in some_wishes(93, 8):
            self.assertIsNone(parted(wish, read_wish(show_wish(wish))))

    def test_one_wish_in_several_places(self):
        wish = Then(Both([A]), B)
        self.assertEqual(show_wish(Both([wish, wish])), f"( {show_wish(wish)} & {show_wish(wish)} )")
        self.assertEqual(told_fields(read_wish(show_wish(Both([wish, wish])))), told_fields(Both([wish, wish])))

    def test_the_wish_stays(self):
        for wish, text in WRITTEN:
            before = told_fields(wish)
            show_wish(wish)
            self.assertEqual(told_fields(wish), before)

    def test_what_is_read_is_its_own(self):
        read_wish("count 1 a b").names.append("c")
        self.assertEqual(read_wish("count 1 a b").names, ["a", "b"])


class Broken(Refusals):
    def test_by_hand(self):
        for text, at in [
            ("", 0), (" ", 0), ("\n", 0), ("a", 0), ("Count 1 a", 0), (" count 1 a", 0), ("count", 1), ("weigh", 1), ("houses", 1),
            ("count ", 1), ("count a", 1), ("count 1", 2), ("count 1 ", 2), ("count 1 1", 2), ("count 1 A", 2),
            ("count 1 a 1", 3), ("count 1 a ", 3), ("count  1 a", 1), ("count 1  a", 2), ("count 1 a  b", 3),
            ("count 1 a\n", 2), ("count 1 a\nb", 2), ("count\n1 a", 0), ("count 1 abcdefghi", 2), ("count 1 abcdefgh i1", 3),
            ("count 01 a", 1), ("count 00 a", 1), ("count -1 a", 1), ("count +1 a", 1), ("count 1.0 a", 1), ("count 1_0 a", 1),
            ("count 12345678901 a", 1), ("count 1 a / b", 3), ("count 1 a & count 1 b", 3), ("count 1 a )", 3), ("count 1 ( a )", 2),
            ("weigh 1", 2), ("weigh 1 a", 3), ("weigh 1 a b", 3), ("weigh 1 a 1 b", 5), ("weigh 1 a 1 b c", 5),
            ("weigh 1 a 1 1", 4), ("weigh 1 1 a", 2), ("weigh 1 a 01", 3), ("weigh 1 a 1 )", 4), ("weigh 1 a 1 count 1 a", 7),
            ("weigh 1 a 1 b )", 5), ("weigh 1 a 12345678901", 3),
            ("houses 1", 2), ("houses 1 a", 2), ("houses 1 1", 3), ("houses 1 1 /", 3), ("houses 1 1 a /", 5),
            ("houses 1 1 a / /", 5), ("houses 1 1 a / 1", 5), ("houses 1 1 a 1", 4), ("houses 1 1 a / b /", 7), ("houses 1 1 1 a", 3),
            ("houses 1 1 a / )", 5), ("houses 1 1 / a", 3),
            ("(", 1), ("( ", 1), (")", 0), ("( )", 1), ("&", 0), ("( &", 2), ("( & )", 2), ("( & &", 2), ("( >", 1), ("( > count 1 a )", 1),
            ("( count 1 a )", 4), ("( count 1 a", 4), ("( count 1 a &", 5), ("( count 1 a & )", 5), ("( count 1 a & count 1 b", 8),
            ("( count 1 a & count 1 b |", 8), ("( count 1 a | count 1 b &", 8), ("( count 1 a & count 1 b >", 8),
            ("( count 1 a > count 1 b > count 1 c )", 8), ("( count 1 a > count 1 b & count 1 c )", 8),
            ("( count 1 a > )", 5), ("( & count 1 a", 5), ("( & count 1 a & count 1 b )", 5), ("( & count 1 a | count 1 b )", 5),
            ("( | count 1 a | count 1 b )", 5), ("( | count 1 a > count 1 b )", 5), ("( & count 1 a ) )", 6),
            ("( & count 1 a ) ", 6), ("( & count 1 a ) count 1 a", 6), ("( & count 1 a ) & count 1 a", 6),
            ("(& count 1 a )", 0), ("( count 1 a& count 1 b )", 3), ("( ( & count 1 a ) )", 7), ("( ( & count 1 a ) & count 1 b", 11),
            ("( a & b )", 1), ("( & a )", 2), ("count 1 a,b", 2), ("count 1 a;", 2), ("count 1 -", 2), ("( count 1 a / count 1 b )", 4),
        ]:
            self.refuse_at(at, read_wish, text)
            self.assertEqual(doc_at(text.split(" ")), at)

    def test_whatever_few_words(self):
        words = ["count", "weigh", "houses", "a", "1", "/", "(", ")", "&", "|", ">", ""]
        for size in range(1, 5):
            for some in itertools.product(words, repeat=size):
                self.check(list(some))

    def test_each_place_of_right_texts(self):
        words = ["count", "weigh", "houses", "a", "1", "0", "01", "/", "(", ")", "&", "|", ">", "", "-", "abcdefghi", "a1", "9" * 11]
        chance = random.Random(94)
        for wish, text in WRITTEN + [(wish, show_wish(wish)) for wish in some_wishes(95, 40)]:
            right = text.split(" ")
            for place in range(len(right) + 1):
                word = chance.choice(words)
                self.check(right[:place])
                self.check(right[:place] + [word] + right[place:])
                self.check(right[:place] + [word] + right[place + 1:])
                self.check(right[:place] + right[place + 1:])

    def check(self, words):
        if not words:
            return
        at = doc_at(words)
        try:
            self.assertEqual(show_wish(read_wish(" ".join(words))), " ".join(words))
            self.assertIsNone(at, words)
        except NoText as refused:
            self.assertIsNotNone(at, words)
            self.assertEqual(refused.at, at, words)
        except NoWish:
            self.assertIsNone(at, words)

    def test_up_to_twenty_brackets(self):
        for many in range(1, 21):
            opened = " ".join(["( &"] * many)
            self.refuse_at(2 * many, read_wish, opened)
            self.refuse_at(2 * many + 3, read_wish, opened + " count 1 a")
            self.refuse_at(3 * many + 3, read_wish, opened + " count 1 a" + " )" * many + " )")
            self.refuse_at(3 * many + 2, read_wish, opened + " count 1 a" + " )" * (many - 1))
            self.refuse_at(many, read_wish, " ".join(["("] * many))
            self.refuse_at(many + 3, read_wish, " ".join(["("] * many) + " count 1 a )")
            whole = opened + " count 1 a" + " )" * many
            if many <= 3:
                self.assertEqual(told_fields(read_wish(whole)), told_fields(deepened(A, many)))
            else:
                self.refuse(NoWish, read_wish, whole)
            left = "( " * many + "count 1 a" + " > count 1 a )" * many
            if many <= 3:
                self.assertEqual(show_wish(read_wish(left)), left)
            else:
                self.refuse(NoWish, read_wish, left)

    def test_no_wish(self):
        for text in ["count 0 a", "count 2 a", "count 9999999999 a", "count 1 a a", "count 1 a b c d e f", "weigh 0 a 1", "weigh 2 a 1",
                     "weigh 1 a 0", "weigh 1 a 1000000001", "weigh 1 a 1 a 1", "weigh 1 a 1 b 1 c 1 d 1 e 1 f 1", "houses 0 1 a",
                     "houses 1 0 a", "houses 2 1 a", "houses 1 2 a", "houses 1 2 a b / a", "houses 1 1 a a", "houses 1 1 a b c d e f",
                     "houses 1 1 a / b / c / d / e / a", "houses 1 1 a b c / d e f", "( count 1 a b c & count 1 d e f )",
                     "( count 1 a & count 0 a )", "( count 0 a & count 1 a )", "( & count 2 a )", "( count 1 a > count 2 a )",
                     "( " + " & ".join(["count 1 a"] * 6) + " )", "( " + " | ".join(["count 1 a"] * 6) + " )",
                     "( & ( & ( & ( & count 1 a ) ) ) )",
                     "( ( " + " & ".join(["count 1 a"] * 5) + " ) & ( " + " | ".join(["count 1 a"] * 5) + " ) )"]:
            self.assertIsNone(doc_at(text.split(" ")))
            self.refuse(NoWish, read_wish, text)

    def test_just_still_a_wish(self):
        for text in ["( ( " + " & ".join(["count 1 a"] * 5) + " ) & ( " + " | ".join(["count 1 a"] * 4) + " ) )",
                     "( & ( & ( & count 1 a ) ) )", "( " + " & ".join(["count 1 a"] * 5) + " )", "count 5 a b c d e"]:
            self.assertEqual(show_wish(read_wish(text)), text)

    def test_what_is_broken_ahead_of_what_is_no_wish(self):
        self.refuse_at(4, read_wish, "count 9 a a /")
        self.refuse_at(8, read_wish, "( count 0 a & count 0 a")
        self.refuse_at(14, read_wish, "( & ( & ( & ( & ( & count 1 a ) ")
        self.refuse_at(9, read_wish, "count 1 a b c d e f g /")

    def test_what_is_no_text(self):
        for thing in [thing for thing in odd_things() if not isinstance(thing, str)] + [Sour(), A, b"count 1 a", ["count 1 a"],
                                                                                         ("count", "1", "a"), 1, bytearray(b"a")]:
            self.refuse_at(None, read_wish, thing)

    def test_odd_texts(self):
        for text in odd_things():
            if isinstance(text, str):
                self.refuse_at(0, read_wish, text)

    def test_long_texts(self):
        self.refuse_at(2000, read_wish, "count 1 " + "a " * 1998 + "1")
        self.refuse(NoWish, read_wish, "count 1 " + " ".join(["a"] * 2990))
        self.refuse(NoWish, read_wish, "( " + " & ".join(["count 1 a"] * 450) + " )")


ROWS = [
    (("begin", 5, 1, ("ann", "bob")), "begin 5 1 ann bob"),
    (("begin", 0, 0, ()), "begin 0 0"),
    (("begin", 9999999999, 999999999, ("b", "a", "b", "begin")), "begin 9999999999 999999999 b a b begin"),
    (("hear", 5, "ann", 1, 20, 3, 77, "ok"), "hear 5 ann 1 20 3 77 ok"),
    (("hear", 5, "hear", 1, None, 0, 0, "no"), "hear 5 hear 1 - 0 0 no"),
    (("hear", 0, "z", 0, 0, 0, 0, "never"), "hear 0 z 0 0 0 0 never"),
    (("wake", 7, ()), "wake 7"),
    (("wake", 7, ("a",)), "wake 7 a"),
    (("wake", 7, ("abcdefgh", "wake", "off", "yes")), "wake 7 abcdefgh wake off yes"),
    (("off", 7, True), "off 7 yes"),
    (("off", 0, False), "off 0 no"),
]

NO_ROWS = [
    "", " ", "begin", "begin 1", "begin 1 ", "begin 1 1 ", "begin  1 1", " begin 1 1", "begin 1 1  a", "begin 01 1", "begin 1 01",
    "begin 1 1 A", "begin 1 1 1", "begin 1 1 a 1", "begin 1 1 a,b", "begin 1 1 -", "begin a 1", "begin 1 a", "begin -1 1", "begin - 1",
    "begin 12345678901 1", "begin 1 12345678901", "begin 1 1 abcdefghi", "Begin 1 1", "begins 1 1", "begin1 1",
    "hear", "hear 1 a 1 1 1 1", "hear 1 a 1 1 1 1 ok ok", "hear 1 a 1 1 1 1 ok ", "hear 1 a 1 1 1 1 OK", "hear 1 a 1 1 1 1 open",
    "hear 1 a 1 1 1 1 yes", "hear 1 a 1 1 1 1 -", "hear 1 a 1 1 1 1 off", "hear 1 1 1 1 1 1 ok", "hear - a 1 1 1 1 ok",
    "hear 1 - 1 1 1 1 ok", "hear 1 a - 1 1 1 ok", "hear 1 a 1 1 - 1 ok", "hear 1 a 1 1 1 - ok", "hear 1 a 1 None 1 1 ok",
    "hear 1 a 1 -- 1 1 ok", "hear 1 a 1 01 1 1 ok", "hear 1 a 01 1 1 1 ok", "hear 1 a 1 1 01 1 ok", "hear 1 a 1 1 1 01 ok",
    "hear 01 a 1 1 1 1 ok", "hear 1 a 1 12345678901 1 1 ok", "hear 1 a 1 1 1  ok", "hear 1 a 1  1 1 ok",
    "wake", "wake ", "wake a", "wake -", "wake 1 -", "wake 1 1", "wake 1 ", "wake  1", "wake 00", "wake 1 a ", "wake 1 a  b", "wakes 1",
    "off", "off 1", "off 1 ", "off yes", "off yes 1", "off 1 True", "off 1 yes no", "off 1 yes ", "off 01 yes", "off 1 ok", "off 1 -",
    "call_off 1 yes", "due 1", "-", "state", "wish count 1 a", "a",
]


class Books(Refusals):
    def test_each_row(self):
        for row, text in ROWS:
            self.assertEqual(show_book([row]), text)
            self.assertEqual(read_book(text), [row])
            self.assertEqual([type(part) for part in read_book(text)[0]], [type(part) for part in row])
        whole = "\n".join([text for row, text in ROWS])
        self.assertEqual(show_book([row for row, text in ROWS]), whole)
        self.assertEqual(read_book(whole), [row for row, text in ROWS])

    def test_each_word(self):
        for word in WORDS:
            self.assertEqual(read_book(f"hear 1 a 1 1 1 1 {word}"), [("hear", 1, "a", 1, 1, 1, 1, word)])
            self.assertEqual(show_book([("hear", 1, "a", 1, 1, 1, 1, word)]), f"hear 1 a 1 1 1 1 {word}")

    def test_no_rows(self):
        self.assertEqual(show_book([]), "")
        self.assertEqual(read_book(""), [])

    def test_what_askers_wrote(self):
        chance = random.Random(96)
        wishes = small_wishes(97, 10)
        for run in range(30):
            things = some_things(chance, wishes)
            book = run_by_chance(chance, things, Asker(*things), 20).book()
            self.assertEqual(read_book(show_book(book)), book)
            self.assertEqual(show_book(read_book(show_book(book))), show_book(book))

    def test_texts_that_are_no_rows(self):
        for text in NO_ROWS:
            if text:
                self.refuse_at(0, read_book, text)
            for place in [1, 3, len(ROWS)]:
                texts = [text for row, text in ROWS]
                self.refuse_at(place, read_book, "\n".join(texts[:place] + [text] + texts[place:]))
            self.refuse_at(0, read_book, text + "\n" + ROWS[0][1])
            self.refuse_at(1, read_book, "\n".join([ROWS[0][1], text, "worse", text]))

    def test_line_feeds(self):
        for text, at in [("\n", 0), ("\n\n", 0), ("wake 1\n", 1), ("\nwake 1", 0), ("wake 1\n\nwake 2", 1), ("wake 1\n ", 1), ("wake\n1", 0)]:
            self.refuse_at(at, read_book, text)

    def test_no_text(self):
        for thing in odd_things() + [A, b"wake 1", ["wake 1"], ("wake", 1, ())]:
            if not isinstance(thing, str):
                self.refuse_at(None, read_book, thing)

    def test_no_list(self):
        for thing in odd_things():
            if not isinstance(thing, list):
                self.refuse_at(None, show_book, thing)

    def test_things_that_are_no_rows(self):
        rows = [row for row, text in ROWS]
        for thing in odd_things() + [list(rows[0]), "wake 1", ("wake",), ("wake", 1), ("wake", 1, [], ()), ("wake", 1, []), ("wake", 1, ["a"]),
                                     ("begin", 1, 1), ("begin", 1, ()), ("Wake", 1, ()), (Sour(), 1, ()), ([], 1, ()), ("wake", 1, "a"),
                                     ("wake", 1, (("a",),)), ("wake", 1, ("a", None)), ring(), ("off", 1, 1), ("off", 1, 0),
                                     ("off", 1, None), ("off", 1, "yes"), ("off", 1), ("off", 1, True, True), ("wake", 10000000000, ()),
                                     ("begin", 1, 10000000000, ()), ("hear", 1, "a", 1, 1, 1, 1), ("hear", 1, "a", 1, 1, 1, 1, "open"),
                                     ("hear", 1, "a", 1, "-", 1, 1, "ok"), ("hear", 1, "a", 1, 10000000000, 1, 1, "ok"),
                                     ("hear", 1, "a", None, 1, 1, 1, "ok"), ("hear", 1, "a", 1, 1, None, 1, "ok"),
                                     ("hear", 1, "a", 1, 1, 1, None, "ok"), ("hear", None, "a", 1, 1, 1, 1, "ok"),
                                     ("hear", 1, None, 1, 1, 1, 1, "ok"), ("hear", 1, "a", 1, 1, 1, 1, None)]:
            for place in [0, 2, len(rows)]:
                self.refuse_at(place, show_book, rows[:place] + [thing] + rows[place:])
        self.refuse_at(1, show_book, [rows[0], None, None])

    def test_any_part_another_thing(self):
        for row, text in ROWS:
            for at in range(len(row)):
                for thing in odd_things():
                    other = row[:at] + (thing,) + row[at + 1:]
                    if self.is_like(row, at, thing):
                        self.assertEqual(read_book(show_book([row, other])), [row, other])
                    else:
                        self.refuse_at(1, show_book, [row, other])

    def is_like(self, row, at, thing):
        """Whether a thing among the odd ones may stand there: another number, another truth, a value or its want, names."""
        if isinstance(row[at], bool):
            return isinstance(thing, bool)
        if isinstance(row[at], tuple):
            return isinstance(thing, tuple) and all(isinstance(name, str) for name in thing)
        if row[0] == "hear" and at == 4 and thing is None:
            return True
        return type(row[at]) in (int, type(None)) and type(thing) is int and 0 <= thing

    def test_the_book_stays(self):
        rows = [row for row, text in ROWS]
        show_book(rows)
        self.assertEqual(rows, [row for row, text in ROWS])
        told = read_book("wake 1 a")
        told.append("more")
        self.assertEqual(read_book("wake 1 a"), [("wake", 1, ("a",))])

    def test_a_long_book(self):
        rows = [("wake", moment, ("ann",)) for moment in range(3000)]
        self.assertEqual(read_book(show_book(rows)), rows)


if __name__ == "__main__":
    unittest.main()
