"""The asker: writes one ask to many, hears their answers, asks again who is silent, and keeps a book of it."""

from enoughsaid.answers import Answer, is_true
from enoughsaid.errors import NoAnswer, NoAsk, NoRule, NoTime, NoWish
from enoughsaid.rules import is_rule, together
from enoughsaid.ways import of_wish, wanted
from enoughsaid.wishes import holds, is_from_nought, is_name, is_up_to, is_whole, is_wish

MOST_KEYS = 7
GREATEST_KEY = 1000002


def are_keys(wish, thing):
    if not isinstance(thing, dict) or not 1 <= len(thing) <= MOST_KEYS:
        return False
    if not all([is_name(name) for name in thing]):
        return False
    if not all([is_up_to(key, GREATEST_KEY) for key in thing.values()]):
        return False
    return all([name in thing for name in wish.names_in()])


def is_from_one(thing):
    return is_whole(thing) and thing >= 1


def demand_asker(wish, keys, rule, pause, times):
    if not is_wish(wish):
        raise NoWish("an asker is made of a wish")
    if not are_keys(wish, keys):
        raise NoAsk("the keys are no dict of one to seven names to keys, or a name of the wish has none")
    if not is_rule(rule):
        raise NoRule("a rule is most, newest, least, greatest or middle")
    if not is_from_one(pause):
        raise NoAsk("the pause is no whole number from 1 on")
    if not is_from_one(times):
        raise NoAsk("how often one may be asked is no whole number from 1 on")


class Asker:
    """Asks by a wish: all of the fields are its own affair, what it tells are its methods."""

    def __init__(self, wish, keys, rule, pause, times):
        demand_asker(wish, keys, rule, pause, times)
        self.wish = wish
        self.secrets = dict(keys)
        self.rule = rule
        self.pause = pause
        self.times = times
        self.known = {}
        self.rows = []
        self.last = 0
        self.ask = None
        self.make_new("idle")

    def make_new(self, phase):
        self.phase = phase
        self.over_at = None
        self.came = []
        self.told = []
        self.heard = {}
        self.still = sorted(self.secrets)
        self.letters = {}

    def demand_moment(self, moment):
        if not is_from_nought(moment) or moment < self.last:
            raise NoTime("a moment is a whole number from 0 on, and not below that of the last deed")

    def write(self, row):
        self.rows.append(row)
        self.last = row[1]

    def close(self, phase, moment):
        self.phase = phase
        self.over_at = moment

    def wanting(self):
        """The names that are wanted now: none just where the wish holds by the row, or can't hold any more."""
        # All hangs on the row and on who is out, and there are few of these: each is reckoned once.
        place = (tuple(of_wish(self.wish, self.came)), tuple(of_wish(self.wish, self.still)))
        if place not in self.known:
            self.known[place] = wanted(self.wish, self.came, self.still)
        return self.known[place]

    def send(self, names, moment):
        for name in names:
            self.letters[name] = (self.asked(name) + 1, moment)

    def begin(self, moment, number):
        """Leaves the last ask behind and begins one; tells to whom letters go."""
        self.demand_moment(moment)
        if not is_from_nought(number) or (self.ask is not None and number <= self.ask):
            raise NoAsk("an ask's number is a whole number from 0 on, and greater than those ahead")
        self.ask = number
        self.make_new("open")
        names = list(self.wanting())
        if not names:
            self.close("never", moment)
        self.send(names, moment)
        self.write(("begin", moment, number, tuple(names)))
        return names

    def against(self, answer):
        """The word for why an answer isn't counted, or None where it is."""
        if self.ask is None:
            return "idle"
        if answer.name not in self.secrets or answer.ask > self.ask:
            return "strange"
        if answer.ask < self.ask:
            return "elder"
        if not is_true(answer, self.secrets[answer.name]):
            return "false"
        if self.phase != "open":
            return "over"
        return "twice" if answer.name in self.heard else None

    def take_in(self, answer):
        self.heard[answer.name] = True
        self.still = [name for name in self.still if name != answer.name]
        if answer.value is not None:
            self.came.append(answer.name)
            self.told.append((answer.value, answer.stamp))

    def word_for(self, answer):
        """What an answer that was counted has brought."""
        if holds(self.wish, self.came):
            return "done"
        if not self.wanting():
            return "never"
        return "no" if answer.value is None else "ok"

    def hear(self, moment, answer):
        """Hears an answer; tells what became of it, by one word."""
        self.demand_moment(moment)
        if not isinstance(answer, Answer):
            raise NoAnswer("what is heard is an answer")
        word = self.against(answer)
        if word is None:
            self.take_in(answer)
            word = self.word_for(answer)
            if word in ("done", "never"):
                self.close(word, moment)
        self.write(("hear", moment, answer.name, answer.ask, answer.value, answer.stamp, answer.seal, word))
        return word

    def ready_at(self, name):
        return self.letters[name][1] + self.pause

    def is_spent(self, name):
        return self.asked(name) >= self.times

    def give_up(self, moment):
        lost = [name for name in self.still if self.is_spent(name) and self.ready_at(name) <= moment]
        self.still = [name for name in self.still if name not in lost]

    def ask_again(self, moment):
        self.give_up(moment)
        if not self.wanting():
            self.close("never", moment)
        # Whoever is wanted was so when the ask began, and had a letter then.
        names = [name for name in self.wanting() if self.ready_at(name) <= moment]
        self.send(names, moment)
        return names

    def wake(self, moment):
        """Gives up who was asked in vain, and asks again who is silent; tells to whom letters go."""
        self.demand_moment(moment)
        names = self.ask_again(moment) if self.phase == "open" else []
        self.write(("wake", moment, tuple(names)))
        return names

    def due(self):
        """The least moment at which waking gives someone up or sends a letter, or None."""
        if self.phase != "open":
            return None
        # While it is open someone is wanted, so there is such a moment.
        names = [name for name in self.still if self.is_spent(name) or name in self.wanting()]
        return max(self.last, min([self.ready_at(name) for name in names]))

    def call_off(self, moment):
        """Ends an ask that is open; tells whether it was."""
        self.demand_moment(moment)
        was = self.phase == "open"
        if was:
            self.close("off", moment)
        self.write(("off", moment, was))
        return was

    def state(self):
        return self.phase

    def number(self):
        return self.ask

    def row(self):
        return list(self.came)

    def out(self):
        return list(self.still)

    def asked(self, name):
        """How often a name was asked in this ask; 0 of anything else."""
        if not is_name(name) or name not in self.letters:
            return 0
        return self.letters[name][0]

    def result(self):
        """What the rule makes of the answers while the ask is done, else None."""
        return together(self.rule, self.told) if self.phase == "done" else None

    def ended(self):
        return self.over_at

    def book(self):
        return list(self.rows)
