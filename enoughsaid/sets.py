"""Least sets: which names, in whatever order, are enough for a wish, and without which it can't hold."""

from enoughsaid.ways import all_rows, can_hold


def sets_of(names):
    """Every set of some of the sorted names, as a sorted list: fewer names ahead, then as lists are ordered."""
    found = []
    longest = [[]]
    while longest:
        found.extend(longest)
        longer = []
        for some in longest:
            longer.extend([some + [name] for name in names if not some or name > some[-1]])
        longest = longer
    return found


def has_all(some, names):
    return all([name in some for name in names])


def sets_held(wish):
    """The sets of whose names, all of them in some order, the wish holds."""
    held = {}
    for row in all_rows(wish.names_in()):
        if wish.first_in(row) is not None:
            held[tuple(sorted(row))] = True
    return list(held)


def doing_sets(wish):
    """All sets of the wish's names that can do, in the order of sets_of."""
    held = sets_held(wish)
    return [some for some in sets_of(wish.names_in()) if any([has_all(some, names) for names in held])]


def blockers(wish):
    """All blockers of the wish, in the order of sets_of."""
    names = wish.names_in()
    doing = doing_sets(wish)
    return [some for some in sets_of(names) if [name for name in names if name not in some] not in doing]


def least_of(ordered):
    # Fewer names stand ahead, so whatever a set has in it was met ahead of it.
    least = []
    for some in ordered:
        if not any([has_all(some, names) for names in least]):
            least.append(some)
    return least


def can_do(wish, names):
    # What is no set is no out either, and refused as such.
    return can_hold(wish, [], names)


def least_sets(wish):
    return least_of(doing_sets(wish))


def least_blockers(wish):
    return least_of(blockers(wish))
