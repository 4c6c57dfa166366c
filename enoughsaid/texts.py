"""Texts: wishes and books, written and read."""

from enoughsaid.errors import NoText
from enoughsaid.forms import is_figures, read_parts, show_parts
from enoughsaid.wishes import Both, Count, Either, Houses, Then, Weigh, is_name

LEAVES = ("count", "weigh", "houses")
BOOK_ROWS = {
    "begin": ("number", "number", "names"),
    "hear": ("number", "name", "number", "value", "number", "number", "heard"),
    "wake": ("number", "names"),
    "off": ("number", "truth"),
}
# What may stand behind a wish in brackets: by what stood between the wishes in them last,
# or by how they began, where nothing stood between yet.
GOES_ON = {
    "(": ("&", "|", ">"),
    "(&": (")",),
    "(|": (")",),
    "&": ("&", ")"),
    "|": ("|", ")"),
    ">": (")",),
}


def show_leaf(wish):
    if isinstance(wish, Count):
        return " ".join(["count", str(wish.many)] + wish.names)
    if isinstance(wish, Weigh):
        return " ".join(["weigh", str(wish.least)] + [pair[0] + " " + str(pair[1]) for pair in wish.pairs])
    houses = " / ".join([" ".join(house) for house in wish.houses])
    return " ".join(["houses", str(wish.many), str(wish.each), houses])


def show_joined(sign, wishes):
    within = f" {sign} ".join([show_wish(wish) for wish in wishes])
    if len(wishes) == 1:
        # There is no place between two wishes, so the sign stands ahead.
        within = f"{sign} {within}"
    return f"( {within} )"


def show_wish(wish):
    """The wish's text."""
    if isinstance(wish, Both):
        return show_joined("&", wish.wishes)
    if isinstance(wish, Either):
        return show_joined("|", wish.wishes)
    if isinstance(wish, Then):
        return show_joined(">", [wish.one, wish.other])
    return show_leaf(wish)


class Reader:
    """Goes over the words of a wish's text, and writes down what is to be made: parts ahead of what is made of them."""

    def __init__(self, words):
        self.words = words
        self.place = 0
        self.steps = []
        self.brackets = []

    def ahead(self):
        """The word that comes, or None at the end."""
        return self.words[self.place] if self.place < len(self.words) else None

    def take(self, right):
        if not right:
            raise NoText(self.place)
        self.place += 1
        return self.words[self.place - 1]

    def take_of(self, words):
        return self.take(self.ahead() in words)

    def take_number(self):
        return int(self.take(is_figures(self.ahead())))

    def take_names(self):
        names = [self.take(is_name(self.ahead()))]
        while is_name(self.ahead()):
            names.append(self.take(True))
        return names

    def take_pairs(self):
        pairs = []
        while not pairs or is_name(self.ahead()):
            name = self.take(is_name(self.ahead()))
            pairs.append((name, self.take_number()))
        return pairs

    def take_houses(self):
        houses = [self.take_names()]
        while self.ahead() == "/":
            self.take(True)
            houses.append(self.take_names())
        return houses

    def take_leaf(self, kind):
        many = self.take_number()
        if kind == "count":
            self.steps.append((kind, many, self.take_names()))
        elif kind == "weigh":
            self.steps.append((kind, many, self.take_pairs()))
        else:
            each = self.take_number()
            self.steps.append((kind, many, each, self.take_houses()))

    def take_bracket(self):
        mark = "("
        if self.ahead() in ("&", "|"):
            mark = mark + self.take(True)
        self.brackets.append((mark, 1))

    def take_first(self):
        """The brackets with which a wish begins, as many as stand there, and the leaf behind them."""
        word = self.take_of(LEAVES + ("(",))
        while word == "(":
            self.take_bracket()
            word = self.take_of(LEAVES + ("(",))
        self.take_leaf(word)

    def go_on(self):
        """What stands behind a wish within brackets: their end, or a sign and what begins another wish."""
        bracket = self.brackets.pop()
        sign = self.take_of(GOES_ON[bracket[0]])
        if sign == ")":
            self.steps.append((bracket[0][-1], bracket[1]))
        else:
            self.brackets.append((sign, bracket[1] + 1))
            self.take_first()

    def take_all(self):
        self.take_first()
        while self.brackets:
            self.go_on()
        if self.place < len(self.words):
            raise NoText(self.place)
        return self.steps


def make_leaf(step):
    if step[0] == "count":
        return Count(step[1], step[2])
    if step[0] == "weigh":
        return Weigh(step[1], step[2])
    return Houses(step[1], step[2], step[3])


def make_joined(sign, wishes):
    if sign == "&":
        return Both(wishes)
    if sign == "|":
        return Either(wishes)
    return Then(wishes[0], wishes[1])


def make_wish(steps):
    wishes = []
    for step in steps:
        if step[0] in LEAVES:
            wishes.append(make_leaf(step))
        else:
            ahead = len(wishes) - step[1]
            wishes = wishes[:ahead] + [make_joined(step[0], wishes[ahead:])]
    return wishes[0]


def read_wish(text):
    """The wish of a text; NoText bears the number of the first word that is wrong."""
    if not isinstance(text, str):
        raise NoText()
    # All is read ahead of the first wish made: what breaks the form is told ahead of what is no wish.
    return make_wish(Reader(text.split(" ")).take_all())


def show_row(row):
    """A row's text, or None where it is no row of a book."""
    if not isinstance(row, tuple) or not row or not isinstance(row[0], str) or row[0] not in BOOK_ROWS:
        return None
    words = show_parts(BOOK_ROWS[row[0]], row[1:])
    return None if words is None else " ".join([row[0]] + words)


def read_row(text):
    """The row of a text, or None where it is none."""
    words = text.split(" ")
    if words[0] not in BOOK_ROWS:
        return None
    parts = read_parts(BOOK_ROWS[words[0]], words[1:])
    return None if parts is None else tuple([words[0]] + parts)


def demand_rows(rows):
    if None in rows:
        raise NoText(rows.index(None))


def show_book(book):
    """The book's text; NoText bears the number of the first row that is none."""
    if not isinstance(book, list):
        raise NoText()
    rows = [show_row(row) for row in book]
    demand_rows(rows)
    return "\n".join(rows)


def read_book(text):
    """The book of a text; NoText bears the number of the first row that is none."""
    if not isinstance(text, str):
        raise NoText()
    rows = [read_row(row) for row in text.split("\n")] if text else []
    demand_rows(rows)
    return rows
