"""Wishes: whose answers, how many and in which order, are enough; and the rows that make them hold."""

from enoughsaid.errors import NoRow, NoWish

LONGEST_NAME = 8
MOST_LISTED = 5
MOST_NAMES = 5
MOST_DEEP = 4
MOST_PARTS = 12
MOST_WEIGHT = 1000000000


def is_whole(thing):
    return isinstance(thing, int) and not isinstance(thing, bool)


def is_from_nought(thing):
    return is_whole(thing) and thing >= 0


def is_name(thing):
    if not isinstance(thing, str) or not 1 <= len(thing) <= LONGEST_NAME:
        return False
    return all(["a" <= sign <= "z" for sign in thing])


def is_row(thing):
    if not isinstance(thing, list):
        return False
    return all([is_name(name) for name in thing]) and len(set(thing)) == len(thing)


def is_wish(thing):
    # Wish itself is left out: it has nothing by which it could hold.
    return isinstance(thing, (Count, Weigh, Houses, Both, Either, Then))


def is_up_to(thing, most):
    return is_whole(thing) and 1 <= thing <= most


def is_short_list(thing):
    return isinstance(thing, list) and 1 <= len(thing) <= MOST_LISTED


def is_short_row(thing):
    return is_short_list(thing) and is_row(thing)


def is_pair(thing):
    if not isinstance(thing, tuple) or len(thing) != 2:
        return False
    return is_name(thing[0]) and is_up_to(thing[1], MOST_WEIGHT)


def demand(right, words):
    if not right:
        raise NoWish(words)


def demand_wishes(wishes):
    demand(is_short_list(wishes), "the wishes are no list of one to five")
    demand(all([is_wish(wish) for wish in wishes]), "what stands among the wishes is none")


def demand_size(wish):
    demand(len(wish.names_in()) <= MOST_NAMES, "a wish has at most five names in all")
    demand(wish.depth() <= MOST_DEEP, "a wish is at most four deep")
    demand(wish.parts_many() <= MOST_PARTS, "a wish has at most twelve parts")


def first_enough(wish, row):
    for many in range(1, len(row) + 1):
        if wish.enough(row[:many]):
            return many
    return None


class Wish:
    """What the six kinds have in common; never made by itself."""

    def own_names(self):
        return []

    def made_of(self):
        return []

    def names_in(self):
        names = self.own_names()
        for wish in self.made_of():
            names = names + wish.names_in()
        return sorted(set(names))

    def depth(self):
        return 1 + max([wish.depth() for wish in self.made_of()], default=0)

    def parts_many(self):
        return 1 + sum([wish.parts_many() for wish in self.made_of()])


class Count(Wish):
    """At least so many of the names."""

    def __init__(self, many, names):
        demand(is_short_row(names), "the names are no list of one to five unlike names")
        demand(is_up_to(many, len(names)), "many is not from 1 to how many names there are")
        self.many = many
        self.names = list(names)

    def own_names(self):
        return list(self.names)

    def enough(self, row):
        return len([name for name in self.names if name in row]) >= self.many

    def first_in(self, row):
        return first_enough(self, row)


class Weigh(Wish):
    """Names whose weights come to the least, or more."""

    def __init__(self, least, pairs):
        demand(is_short_list(pairs), "the pairs are no list of one to five")
        demand(all([is_pair(pair) for pair in pairs]), "a pair is no tuple of a name and a weight")
        demand(is_row([pair[0] for pair in pairs]), "a name stands twice among the pairs")
        demand(is_up_to(least, sum([pair[1] for pair in pairs])), "least is not from 1 to the sum of the weights")
        self.least = least
        self.pairs = list(pairs)

    def own_names(self):
        return [pair[0] for pair in self.pairs]

    def enough(self, row):
        return sum([pair[1] for pair in self.pairs if pair[0] in row]) >= self.least

    def first_in(self, row):
        return first_enough(self, row)


class Houses(Wish):
    """Of at least so many houses at least each names."""

    def __init__(self, many, each, houses):
        demand(is_short_list(houses), "the houses are no list of one to five")
        demand(all([is_short_row(house) for house in houses]), "a house is no list of one to five unlike names")
        demand(is_up_to(many, len(houses)), "many is not from 1 to how many houses there are")
        demand(is_up_to(each, min([len(house) for house in houses])), "each is not from 1 to the smallest house")
        self.many = many
        self.each = each
        self.houses = [list(house) for house in houses]
        demand_size(self)

    def own_names(self):
        names = []
        for house in self.houses:
            names.extend(house)
        return names

    def house_enough(self, house, row):
        return len([name for name in house if name in row]) >= self.each

    def enough(self, row):
        return len([house for house in self.houses if self.house_enough(house, row)]) >= self.many

    def first_in(self, row):
        return first_enough(self, row)


class Both(Wish):
    """All of the wishes."""

    def __init__(self, wishes):
        demand_wishes(wishes)
        self.wishes = list(wishes)
        demand_size(self)

    def made_of(self):
        return list(self.wishes)

    def first_in(self, row):
        # What holds goes on holding, so all hold with the last one that comes to hold.
        places = [wish.first_in(row) for wish in self.wishes]
        return None if None in places else max(places)


class Either(Wish):
    """At least one of the wishes."""

    def __init__(self, wishes):
        demand_wishes(wishes)
        self.wishes = list(wishes)
        demand_size(self)

    def made_of(self):
        return list(self.wishes)

    def first_in(self, row):
        places = [wish.first_in(row) for wish in self.wishes]
        return min([place for place in places if place is not None], default=None)


class Then(Wish):
    """The one, and the other by what came behind the one's first place alone."""

    def __init__(self, one, other):
        demand(is_wish(one) and is_wish(other), "what is to come one behind the other are no wishes")
        self.one = one
        self.other = other
        demand_size(self)

    def made_of(self):
        return [self.one, self.other]

    def first_in(self, row):
        ahead = self.one.first_in(row)
        if ahead is None:
            return None
        behind = self.other.first_in(row[ahead:])
        return None if behind is None else ahead + behind


def first_by(wish, row):
    """By how many names of the row the wish first holds, or None."""
    if not is_row(row):
        raise NoRow("a row is a list of unlike names")
    return wish.first_in(row)


def holds(wish, row):
    return first_by(wish, row) is not None
