"""The judge of books: whether an asker may have written one, and an asker that goes on where one ended."""

from enoughsaid.answers import Answer
from enoughsaid.asker import Asker
from enoughsaid.errors import EnoughError, NoBook
from enoughsaid.forms import are_names


def told_right(thing, names):
    # Kinds are looked at first: nothing strange is ever compared.
    return are_names(thing) and list(thing) == names


def begin_right(asker, row):
    return len(row) == 4 and told_right(row[3], asker.begin(row[1], row[2]))


def hear_right(asker, row):
    if len(row) != 8 or not isinstance(row[7], str):
        return False
    answer = Answer(row[2], row[3], row[4], row[5], row[6])
    return asker.hear(row[1], answer) == row[7]


def wake_right(asker, row):
    return len(row) == 3 and told_right(row[2], asker.wake(row[1]))


def off_right(asker, row):
    return len(row) == 3 and isinstance(row[2], bool) and asker.call_off(row[1]) == row[2]


DEEDS = {"begin": begin_right, "hear": hear_right, "wake": wake_right, "off": off_right}


def does_right(asker, row):
    """Has the asker do what a row tells of; whether it would have written that row."""
    if not isinstance(row, tuple) or not row or not isinstance(row[0], str) or row[0] not in DEEDS:
        return False
    deed = DEEDS[row[0]]
    try:
        return deed(asker, row)
    except EnoughError:
        # A deed that is refused is in no book.
        return False


def first_wrong(asker, book):
    """Has a new asker do all of a book; the place of the first row that is wrong, or None."""
    if not isinstance(book, list):
        return 0
    for place, row in enumerate(book):
        if not does_right(asker, row):
            return place
    return None


def judged(wish, keys, rule, pause, times, book):
    """The place of the first row that no asker writes there, or None where the book is right."""
    return first_wrong(Asker(wish, keys, rule, pause, times), book)


def resumed(wish, keys, rule, pause, times, book):
    """An asker that stands as the one that wrote the book."""
    asker = Asker(wish, keys, rule, pause, times)
    if first_wrong(asker, book) is not None:
        raise NoBook("no asker made of these writes such a book")
    return asker
