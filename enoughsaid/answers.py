"""Answers, and the seals by which true ones are told from false ones."""

from enoughsaid.errors import NoAnswer
from enoughsaid.wishes import is_from_nought, is_name

SEAL_BOUND = 1000003
VALUE_STEP = 1009
STAMP_STEP = 31


def demand(right, words):
    if not right:
        raise NoAnswer(words)


class Answer:
    """A name's value, or its no, to an ask; with how new it is and a seal."""

    def __init__(self, name, ask, value, stamp, seal):
        demand(is_name(name), "the name is none")
        demand(is_from_nought(ask), "the ask's number is no whole number from 0 on")
        demand(value is None or is_from_nought(value), "the value is no whole number from 0 on and not None")
        demand(is_from_nought(stamp), "the stamp is no whole number from 0 on")
        demand(is_from_nought(seal), "the seal is no whole number from 0 on")
        self.name = name
        self.ask = ask
        self.value = value
        self.stamp = stamp
        self.seal = seal


def seal_of(key, ask, value, stamp):
    # A no and the value 0 are to have unlike seals, so values count from one on.
    told = 0 if value is None else value + 1
    return (key * (1 + ask + VALUE_STEP * told + STAMP_STEP * stamp)) % SEAL_BOUND


def is_true(answer, key):
    return answer.seal == seal_of(key, answer.ask, answer.value, answer.stamp)
