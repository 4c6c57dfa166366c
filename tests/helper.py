"""What the tests share: odd things to hand in, wishes by chance of a fixed seed, and the document said over again."""

import itertools
import random

from enoughsaid.errors import NoWish
from enoughsaid.wishes import Both, Count, Either, Houses, Then, Weigh, Wish

FIVE = ["ann", "bob", "cid", "dan", "eve"]
TWELVE = FIVE + ["u", "v", "w", "x", "y", "z", "zz"]


class Sour:
    """Whoever compares or walks it is told so."""

    def __eq__(self, other):
        raise AssertionError("compared")

    def __iter__(self):
        raise AssertionError("walked")

    def __len__(self):
        raise AssertionError("measured")


def ring():
    things = ["ann"]
    things.append(things)
    return things


def odd_things():
    """Things of every kind that are no name, no whole number from 1 to 5, no list of names and no wish."""
    return [
        None, True, False, 0, -1, 999999999, 10 ** 9 + 1, "", "A", "aB", "a b", "a1", "a\n", "abcdefghi", "-", "`", "{",
        (), (1,), ("a", "b"), [1], [None], [True], ["A"], ["a", "a"], ["a", ["b"]], [[]], [()], [{}], ring(),
        {}, {"a": 1}, set(), {"a"}, frozenset(["a"]), b"a", bytearray(b"a"), range(3), iter(["a"]), object(),
        Sour(), len, int, str, Count, Wish, Wish(), ValueError("a"), lambda: 1, Ellipsis, NotImplemented, random,
    ]


def doc_holds(wish, row):
    """1.3, word for word."""
    if isinstance(wish, Count):
        return sum(name in row for name in wish.names) >= wish.many
    if isinstance(wish, Weigh):
        return sum(weight for name, weight in wish.pairs if name in row) >= wish.least
    if isinstance(wish, Houses):
        return sum(sum(name in row for name in house) >= wish.each for house in wish.houses) >= wish.many
    if isinstance(wish, Both):
        return all(doc_holds(part, row) for part in wish.wishes)
    if isinstance(wish, Either):
        return any(doc_holds(part, row) for part in wish.wishes)
    first = doc_first(wish.one, row)
    return first is not None and doc_holds(wish.other, row[first:])


def doc_first(wish, row):
    return next((k for k in range(len(row) + 1) if doc_holds(wish, row[:k])), None)


def rows_of(names):
    """Every row of some of the names, shortest ahead."""
    return [list(some) for size in range(len(names) + 1) for some in itertools.permutations(names, size)]


def doc_ways(wish, row, out):
    return [some for some in rows_of(out) if doc_holds(wish, row + some)]


def doc_wanted(wish, row, out):
    return sorted(
        name for name in out
        if any(name in some and not doc_holds(wish, row + [one for one in some if one != name])
               for some in doc_ways(wish, row, out))
    )


def sets_of(names):
    """Every set of some of the names, told in the order of 4.1."""
    return [list(some) for size in range(len(names) + 1) for some in itertools.combinations(sorted(names), size)]


def doc_can_do(wish, names):
    return any(doc_holds(wish, row) for row in rows_of(names))


def doc_doers(wish):
    return [some for some in sets_of(wish.names_in()) if doc_can_do(wish, some)]


def doc_blockers(wish):
    rows = [row for row in rows_of(wish.names_in()) if doc_holds(wish, row)]
    return [some for some in sets_of(wish.names_in()) if all(set(row) & set(some) for row in rows)]


def doc_least(sets):
    """Of all sets of a kind those that are of it no longer when any one name is left out."""
    return [some for some in sets if not any([one for one in some if one != name] in sets for name in some)]


def doc_paper(wish, costs, paper):
    """4.4, word for word, of a paper whose kinds are right."""
    total, way, shut = paper
    if not doc_holds(wish, way) or sum(costs[name] for name in way) != total:
        return False
    blockers = doc_blockers(wish)
    return all(sorted(some) in blockers for some in shut) and all(
        sum(costs[name] for name in some) >= total
        for some in sets_of(wish.names_in()) if all(set(some) & set(one) for one in shut))


def some_leaf(chance, names):
    kind = chance.choice("cwh")
    picked = chance.sample(names, chance.randint(1, len(names)))
    if kind == "c":
        return Count(chance.randint(1, len(picked)), picked)
    if kind == "w":
        pairs = [(name, chance.choice([1, 1, 2, 3, 10 ** 9])) for name in picked]
        return Weigh(chance.randint(1, min(4, sum(weight for name, weight in pairs))), pairs)
    houses = [chance.sample(names, chance.randint(1, len(names))) for k in range(chance.randint(1, 3))]
    return Houses(chance.randint(1, len(houses)), chance.randint(1, min(map(len, houses))), houses)


def some_wish(chance, names=FIVE, deep=3):
    kind = chance.choice("lbett") if deep > 1 else "l"
    if kind == "l":
        return some_leaf(chance, names)
    if kind == "t":
        return Then(some_wish(chance, names, deep - 1), some_wish(chance, names, deep - 1))
    wishes = [some_wish(chance, names, deep - 1) for k in range(chance.randint(1, 2))]
    return Both(wishes) if kind == "b" else Either(wishes)


def some_wishes(seed, many, names=FIVE):
    chance = random.Random(seed)
    wishes = []
    while len(wishes) < many:
        try:
            wishes.append(some_wish(chance, names, chance.choice([2, 3, 3, 4])))
        except NoWish:
            pass  # four deep may come to more than twelve parts
    return wishes


def any_of(*names):
    return Count(1, list(names))


def all_of(*names):
    return Count(len(names), list(names))


def never():
    """A wish that nothing can make hold: no name answers twice."""
    return Then(any_of("ann"), any_of("ann"))


def deepened(wish, many):
    for k in range(many):
        wish = Both([wish])
    return wish


def wrong_numbers():
    """Things that are no whole number from 0 on."""
    return [thing for thing in odd_things() if thing is True or thing is False or not isinstance(thing, int)
            or thing < 0] + ["0", "1", [0], (0,), {0: 0}, {0}, b"0", -999999999, any_of("a")]


def told_fields(thing):
    """All that can be read of a wish, to be compared with what was read earlier."""
    if not isinstance(thing, Wish):
        return repr(thing)
    return (thing.__class__.__name__, [(key, told_fields(value) if not isinstance(value, list)
            else [told_fields(one) for one in value]) for key, value in sorted(vars(thing).items())])
