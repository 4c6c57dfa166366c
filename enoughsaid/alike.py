"""Alike: whether two wishes hold by the same rows, or one by all rows of the other."""

from enoughsaid.errors import TooGreat
from enoughsaid.ways import all_rows
from enoughsaid.wishes import MOST_NAMES, holds


def rows_of_two(one, other):
    names = sorted(set(one.names_in() + other.names_in()))
    if len(names) > MOST_NAMES:
        raise TooGreat("two wishes are compared that have at most five names in all")
    return all_rows(names)


def parted(one, other):
    """A row by which just one of both holds, or None where they are alike."""
    for row in rows_of_two(one, other):
        if holds(one, row) != holds(other, row):
            return row
    return None


def uncovered(one, other):
    """A row by which the other one holds and the one doesn't, or None where the one covers it."""
    for row in rows_of_two(one, other):
        if holds(other, row) and not holds(one, row):
            return row
    return None
