"""The document's asker said over again, plainly and slowly, and askers of every sort by chance of a fixed seed."""

import copy

from enoughsaid.answers import Answer, seal_of
from tests.helper import FIVE, doc_holds, doc_wanted, doc_ways, some_wishes

RULES = ["most", "newest", "least", "greatest", "middle"]
SEEN = {}


def doc_value(rule, told):
    """6.1, of some tuples (value, stamp)."""
    values = sorted(value for value, stamp in told)
    if rule == "most":
        return max(values, key=lambda value: (values.count(value), -value))
    if rule == "newest":
        return sorted(told, key=lambda pair: (pair[1], pair[0]))[-1][0]
    return {"least": values[0], "greatest": values[-1], "middle": values[(len(values) - 1) // 2]}[rule]


def seen(way, wish, row, out):
    """The same question, answered once: brute force is slow."""
    place = (way.__name__, id(wish), tuple(row), tuple(out))
    if place not in SEEN:
        SEEN[place] = (wish, way(wish, row, out))  # the wish is kept, so that its id stays its own
    return SEEN[place][1]


class DocAsker:
    """Stage 7 and 8.1, for deeds that aren't refused."""

    def __init__(self, wish, keys, rule, pause, times):
        self.wish, self.keys, self.rule, self.pause, self.times = wish, dict(keys), rule, pause, times
        self.now, self.book, self.number = 0, [], None
        self.anew("idle")

    def anew(self, state):
        self.state, self.ended = state, None
        self.answers, self.noes, self.given_up = [], [], []
        self.sent = {name: [] for name in self.keys}

    def row(self):
        return [answer.name for answer in self.answers]

    def out(self):
        return sorted(set(self.keys) - set(self.row()) - set(self.noes) - set(self.given_up))

    def wanted(self):
        return seen(doc_wanted, self.wish, self.row(), self.out())

    def can_hold(self):
        return seen(doc_ways, self.wish, self.row(), self.out()) != []

    def end(self, state):
        self.state, self.ended = state, self.now
        return state

    def letters(self, names):
        for name in names:
            self.sent[name].append(self.now)
        return names

    def begin(self, moment, number):
        self.now, self.number = moment, number
        self.anew("open")
        names = []
        if self.can_hold():
            names = self.letters(self.wanted())
        else:
            self.end("never")
        self.book.append(("begin", moment, number, tuple(names)))
        return names

    def word(self, answer):
        if self.state == "idle":
            return "idle"
        if answer.name not in self.keys or answer.ask > self.number:
            return "strange"
        if answer.ask < self.number:
            return "elder"
        if answer.seal != seal_of(self.keys[answer.name], answer.ask, answer.value, answer.stamp):
            return "false"
        if self.state in ["done", "never", "off"]:
            return "over"
        if answer.name in self.row() + self.noes:
            return "twice"
        if answer.value is None:
            self.noes.append(answer.name)
        else:
            self.answers.append(answer)
        if doc_holds(self.wish, self.row()):
            return self.end("done")
        if not self.can_hold():
            return self.end("never")
        return "no" if answer.value is None else "ok"

    def hear(self, moment, answer):
        self.now = moment
        word = self.word(answer)
        self.book.append(("hear", moment, answer.name, answer.ask, answer.value, answer.stamp, answer.seal, word))
        return word

    def wake(self, moment):
        self.now = moment
        names = []
        if self.state == "open":
            ago = [name for name in self.out() if self.sent[name] and moment - self.sent[name][-1] >= self.pause]
            self.given_up += [name for name in ago if len(self.sent[name]) == self.times]
            if not self.can_hold():
                self.end("never")
            else:
                names = self.letters([name for name in self.wanted() if name in ago])
        self.book.append(("wake", moment, tuple(names)))
        return names

    def call_off(self, moment):
        self.now = moment
        was = self.state == "open"
        if was:
            self.end("off")
        self.book.append(("off", moment, was))
        return was

    def waking_does(self, moment):
        trial = copy.copy(self)
        trial.given_up, trial.book = list(self.given_up), []
        trial.sent = {name: list(moments) for name, moments in self.sent.items()}
        return trial.wake(moment) != [] or trial.given_up != self.given_up

    def due(self):
        """7.6, by trying every moment for longer than a pause."""
        if self.state != "open":
            return None
        return next((moment for moment in range(self.now, self.now + self.pause + 2) if self.waking_does(moment)), None)

    def result(self):
        if self.state != "done":
            return None
        return doc_value(self.rule, [(answer.value, answer.stamp) for answer in self.answers])

    def told(self):
        return [self.state, self.number, self.row(), self.out(), [len(self.sent[name]) for name in sorted(self.keys)],
                self.result(), self.ended, self.due(), self.book]


def told_of(asker, keys):
    """All that an asker tells, as DocAsker.told has it."""
    return [asker.state(), asker.number(), asker.row(), asker.out(), [asker.asked(name) for name in sorted(keys)],
            asker.result(), asker.ended(), asker.due(), asker.book()]


def some_things(chance, wishes):
    """What an asker is made of, by chance."""
    wish = chance.choice(wishes)
    names = wish.names_in() + chance.sample(["u", "v", "count"], chance.randint(0, 2))
    chance.shuffle(names)
    keys = {name: chance.choice([1, 2, 77, 500000, 1000002]) for name in names}
    return wish, keys, chance.choice(RULES), chance.choice([1, 1, 2, 3, 5, 9]), chance.choice([1, 1, 2, 3])


def some_answer(chance, keys, number):
    """Mostly a true one to the ask; now and then strange, elder, false, or several of these."""
    name = chance.choice(sorted(keys) * 4 + ["zed"])
    ask = max(0, (number or 0) + chance.choice([0] * 12 + [-1, 1]))
    value = chance.choice([None, 0, 1, 2, 2, 3, 999999999])
    stamp = chance.choice([0, 1, 2, 2, 999999999])
    seal = seal_of(keys.get(name, 1), ask, value, stamp) + chance.choice([0] * 12 + [1])
    return Answer(name, ask, value, stamp, seal)


def some_deed(chance, keys, moment, number):
    """A deed that isn't refused, as the name of a method and what is handed in."""
    kind = chance.choice(["hear"] * 8 + ["wake"] * 6 + ["begin", "off"])
    if kind == "begin" or number is None and chance.random() < 0.7:
        return "begin", (moment, (-1 if number is None else number) + chance.choice([1, 1, 2, 50]))
    if kind == "hear":
        return "hear", (moment, some_answer(chance, keys, number))
    return ("wake" if kind == "wake" else "call_off"), (moment,)


def small_wishes(seed, many):
    """Of three or four names, so that brute force has an end with names of keys that the wish hasn't."""
    return some_wishes(seed, many // 2, FIVE[:3]) + some_wishes(seed + 1, many - many // 2, FIVE[:4])


def run_by_chance(chance, things, asker, many, each=lambda *told: None):
    """Has an asker do so many deeds; each is called behind every one of them."""
    moment, number = 0, None
    for k in range(many):
        moment += chance.choice([0, 0, 1, 1, 2, things[3]])
        way, handed = some_deed(chance, things[1], moment, number)
        if way == "begin":
            number = handed[1]
        each(way, handed, getattr(asker, way)(*handed))
    return asker
