"""The desk: is told rows, texts, and answers each by a text."""

from enoughsaid.answers import Answer
from enoughsaid.asker import Asker
from enoughsaid.errors import NoAsk, NoRow, NoWish
from enoughsaid.forms import names_shown, read_parts, shown
from enoughsaid.judge import judged
from enoughsaid.sets import least_blockers, least_sets
from enoughsaid.texts import read_book, read_wish, show_book
from enoughsaid.ways import wanted
from enoughsaid.wishes import holds

WISH_START = "wish "
JUDGE_START = "judge\n"
ROWS = {
    "key": ("name", "number"),
    "rule": ("name",),
    "pause": ("number",),
    "times": ("number",),
    "open": (),
    "begin": ("number", "number"),
    "wake": ("number",),
    "hear": ("number", "name", "number", "value", "number", "number"),
    "off": ("number",),
    "state": (),
    "row": (),
    "out": (),
    "asked": ("name",),
    "due": (),
    "value": (),
    "book": (),
    "wanted": (),
    "least": (),
    "blockers": (),
    "holds": ("names",),
}
OF_ASKER = ("begin", "wake", "hear", "off", "state", "row", "out", "asked", "due", "value", "book")
OF_WISH = ("open", "judge", "wanted", "least", "blockers", "holds")


def parts_of(row):
    """The row's first word and what stands behind it, or NoRow where it is none."""
    if not isinstance(row, str):
        raise NoRow("a row is a text")
    if row.startswith(WISH_START):
        return ["wish", row[len(WISH_START):]]
    if row.startswith(JUDGE_START):
        return ["judge", row[len(JUDGE_START):]]
    words = row.split(" ")
    parts = read_parts(ROWS[words[0]], words[1:]) if words[0] in ROWS else None
    if parts is None:
        raise NoRow("this is no row of the desk")
    return [words[0]] + parts


def sets_shown(sets):
    return "; ".join([names_shown(names) for names in sets]) if sets else "-"


def keep_wish(desk, parts):
    desk.wish = read_wish(parts[1])
    return "ok"


def keep_key(desk, parts):
    desk.secrets[parts[1]] = parts[2]
    return "ok"


def keep_rule(desk, parts):
    desk.rule = parts[1]
    return "ok"


def keep_pause(desk, parts):
    desk.pause = parts[1]
    return "ok"


def keep_times(desk, parts):
    desk.times = parts[1]
    return "ok"


def make_asker(desk, parts):
    desk.asker = Asker(desk.wish, desk.secrets, desk.rule, desk.pause, desk.times)
    return "ok"


def tell_begin(desk, parts):
    return names_shown(desk.asker.begin(parts[1], parts[2]))


def tell_wake(desk, parts):
    return names_shown(desk.asker.wake(parts[1]))


def tell_hear(desk, parts):
    return desk.asker.hear(parts[1], Answer(parts[2], parts[3], parts[4], parts[5], parts[6]))


def tell_off(desk, parts):
    return shown(desk.asker.call_off(parts[1]))


def tell_state(desk, parts):
    return desk.asker.state()


def tell_row(desk, parts):
    return names_shown(desk.asker.row())


def tell_out(desk, parts):
    return names_shown(desk.asker.out())


def tell_asked(desk, parts):
    return shown(desk.asker.asked(parts[1]))


def tell_due(desk, parts):
    return shown(desk.asker.due())


def tell_value(desk, parts):
    return shown(desk.asker.result())


def tell_book(desk, parts):
    return show_book(desk.asker.book())


def tell_judged(desk, parts):
    place = judged(desk.wish, desk.secrets, desk.rule, desk.pause, desk.times, read_book(parts[1]))
    return "right" if place is None else str(place)


def tell_wanted(desk, parts):
    return names_shown(wanted(desk.wish, [], desk.wish.names_in()))


def tell_least(desk, parts):
    return sets_shown(least_sets(desk.wish))


def tell_blockers(desk, parts):
    return sets_shown(least_blockers(desk.wish))


def tell_holds(desk, parts):
    return shown(holds(desk.wish, list(parts[1])))


DEEDS = {
    "wish": keep_wish,
    "key": keep_key,
    "rule": keep_rule,
    "pause": keep_pause,
    "times": keep_times,
    "open": make_asker,
    "begin": tell_begin,
    "wake": tell_wake,
    "hear": tell_hear,
    "off": tell_off,
    "state": tell_state,
    "row": tell_row,
    "out": tell_out,
    "asked": tell_asked,
    "due": tell_due,
    "value": tell_value,
    "book": tell_book,
    "judge": tell_judged,
    "wanted": tell_wanted,
    "least": tell_least,
    "blockers": tell_blockers,
    "holds": tell_holds,
}


class Desk:
    """Keeps what an asker is to be made of, and the asker that was made last."""

    def __init__(self):
        self.wish = None
        self.secrets = {}
        self.rule = "most"
        self.pause = 60
        self.times = 3
        self.asker = None

    def say(self, row):
        """Answers a row by a text."""
        parts = parts_of(row)
        if parts[0] in OF_ASKER and self.asker is None:
            raise NoAsk("no asker was made")
        if parts[0] in OF_WISH and self.wish is None:
            raise NoWish("no wish is kept")
        deed = DEEDS[parts[0]]
        return deed(self, parts)
