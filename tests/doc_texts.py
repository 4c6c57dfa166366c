"""9.1's texts said over again as a grammar, and where a row of words can't go on by it, found by trying all ways."""

import re

NAME = re.compile("[a-z]{1,8}")
NUMBER = re.compile("0|[1-9][0-9]{0,9}")
GRAMMAR = {
    "wish": ["count NUMBER names", "weigh NUMBER pairs", "houses NUMBER NUMBER houses-all", "( both )", "( either )",
             "( wish > wish )", "( & wish )", "( | wish )"],
    "names": ["NAME", "NAME names"],
    "pairs": ["NAME NUMBER", "NAME NUMBER pairs"],
    "houses-all": ["names", "names / houses-all"],
    "both": ["wish & wish", "wish & both"],
    "either": ["wish | wish", "wish | either"],
}
RULES = {name: [tuple(way.split(" ")) for way in ways] for name, ways in GRAMMAR.items()}


def is_part(part, word):
    if part == "NAME":
        return NAME.fullmatch(word) is not None
    if part == "NUMBER":
        return NUMBER.fullmatch(word) is not None
    return part == word


def grown(items, rows):
    """All that may be under way with these: an item is a rule's name, its parts, how many are read, and where it began."""
    found, left = set(items), list(items)
    while left:
        name, parts, many, start = left.pop()
        new = []
        if many == len(parts):
            origin = found if start == len(rows) else rows[start]
            new = [(one[0], one[1], one[2] + 1, one[3]) for one in origin if one[2] < len(one[1]) and one[1][one[2]] == name]
        elif parts[many] in RULES:
            new = [(parts[many], way, 0, len(rows)) for way in RULES[parts[many]]]
        for item in new:
            if item not in found:
                found.add(item)
                left.append(item)
    return found


def doc_at(words):
    """The number of the first word that can't go on, or how many there are where more are wanted; None of a right text."""
    rows = []
    now = grown({("text", ("wish",), 0, 0)}, rows)
    for place, word in enumerate(words):
        rows.append(now)
        moved = {(name, parts, many + 1, start) for name, parts, many, start in now
                 if many < len(parts) and parts[many] not in RULES and is_part(parts[many], word)}
        if not moved:
            return place
        now = grown(moved, rows)
    return None if ("text", ("wish",), 1, 0) in now else len(words)
