"""What can still come: whether, how and by whom a wish may yet come to hold."""

from enoughsaid.errors import NoRow
from enoughsaid.wishes import is_row


def one_longer(rows, names):
    longer = []
    for row in rows:
        longer.extend([row + [name] for name in names if name not in row])
    return longer


def all_rows(names):
    """Every row of some of the names, in every order, shorter ones ahead."""
    rows = []
    longest = [[]]
    while longest:
        rows.extend(longest)
        longest = one_longer(longest, names)
    return rows


def demand_out(row, out):
    if not is_row(row) or not is_row(out) or not is_row(row + out):
        raise NoRow("row and out are lists of names, each name once in both together")


def of_wish(wish, names):
    # Names that the wish hasn't count for nothing: without them few rows are left to look at.
    known = wish.names_in()
    return [name for name in names if name in known]


def way(wish, row, out):
    """A shortest list of some of out that makes the wish hold behind the row, or None."""
    demand_out(row, out)
    came = of_wish(wish, row)
    for some in all_rows(of_wish(wish, out)):
        if wish.first_in(came + some) is not None:
            return some
    return None


def can_hold(wish, row, out):
    return way(wish, row, out) is not None


def held_behind(wish, row, out):
    came = of_wish(wish, row)
    held = {}
    for some in all_rows(of_wish(wish, out)):
        held[tuple(some)] = wish.first_in(came + some) is not None
    return held


def wanted(wish, row, out):
    """The names of out, sorted, with which some list makes the wish hold that without them doesn't."""
    demand_out(row, out)
    held = held_behind(wish, row, out)
    found = {}
    for some in held:
        for place, name in enumerate(some):
            if held[some] and not held[some[:place] + some[place + 1:]]:
                found[name] = True
    return sorted(found)
