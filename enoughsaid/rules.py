"""Rules, by which the values of several answers are put together to one."""

from enoughsaid.errors import NoRule


def values_of(told):
    return [pair[0] for pair in told]


def most_often(told):
    often = {}
    for value in values_of(told):
        often[value] = often.get(value, 0) + 1
    return min(often, key=lambda value: (-often[value], value))


def newest(told):
    return max([(pair[1], pair[0]) for pair in told])[1]


def least(told):
    return min(values_of(told))


def greatest(told):
    return max(values_of(told))


def middle(told):
    values = sorted(values_of(told))
    return values[(len(values) - 1) // 2]


CHOICES = {"most": most_often, "newest": newest, "least": least, "greatest": greatest, "middle": middle}


def is_rule(thing):
    return isinstance(thing, str) and thing in CHOICES


def together(rule, told):
    """The one value that the rule makes of tuples (value, stamp), or None of no tuples."""
    if not is_rule(rule):
        raise NoRule("a rule is most, newest, least, greatest or middle")
    if not told:
        return None
    choose = CHOICES[rule]
    return choose(told)
