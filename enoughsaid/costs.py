"""Costs: the cheapest set that can do, and papers by which anyone can see that none is cheaper."""

from enoughsaid.errors import NoCost
from enoughsaid.sets import blockers, least_blockers, least_sets, sets_of
from enoughsaid.ways import way
from enoughsaid.wishes import holds, is_from_nought, is_name, is_row, is_whole


def demand_costs(wish, costs):
    # Names are looked at first: keys of several kinds can't be sorted.
    if not isinstance(costs, dict) or not all([is_name(name) for name in costs]):
        raise NoCost("costs are a dict of the wish's names")
    if sorted(costs) != wish.names_in():
        raise NoCost("costs have just the wish's names")
    if not all([is_from_nought(cost) for cost in costs.values()]):
        raise NoCost("a cost is a whole number from 0 on")


def cost_of(costs, names):
    return sum([costs[name] for name in names])


def cheapest(wish, costs):
    """The least sum of costs and the first of the fewest names that come to it, or None where no set can do."""
    demand_costs(wish, costs)
    # A set that isn't least has more names and costs no less; of equal sums min takes the first.
    names = min(least_sets(wish), key=lambda some: cost_of(costs, some), default=None)
    return None if names is None else (cost_of(costs, names), names)


def cheap_paper(wish, costs):
    """A sum, a row of names that come to it, and blockers that can't all be met for less; or None."""
    found = cheapest(wish, costs)
    if found is None:
        return None
    # What meets each least blocker can do, so none of them is left out.
    return (found[0], way(wish, [], found[1]), least_blockers(wish))


def is_set_of(wish, thing):
    names = wish.names_in()
    return is_row(thing) and all([name in names for name in thing])


def is_way_for(wish, costs, total, thing):
    if not is_whole(total) or not is_set_of(wish, thing):
        return False
    return holds(wish, thing) and cost_of(costs, thing) == total


def are_blockers(wish, thing):
    if not isinstance(thing, list) or not all([is_set_of(wish, some) for some in thing]):
        return False
    known = blockers(wish)
    return all([sorted(some) in known for some in thing])


def meets(some, names):
    return any([name in some for name in names])


def meets_each(some, shut):
    return all([meets(some, names) for names in shut])


def none_is_cheaper(wish, costs, total, shut):
    meeting = [some for some in sets_of(wish.names_in()) if meets_each(some, shut)]
    return all([cost_of(costs, some) >= total for some in meeting])


def cheap_right(wish, costs, paper):
    """Whether anything is a paper (sum, way, shut) that shows the sum to be the least."""
    demand_costs(wish, costs)
    if not isinstance(paper, tuple) or len(paper) != 3:
        return False
    total = paper[0]
    shut = paper[2]
    if not is_way_for(wish, costs, total, paper[1]) or not are_blockers(wish, shut):
        return False
    return none_is_cheaper(wish, costs, total, shut)
