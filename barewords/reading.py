"""Texts that are read: kinds and programs."""

from barewords.errors import BadText
from barewords.figures import integer_in, natural_in, naturals_in
from barewords.forms import MOST_ROW
from barewords.programs import Program
from barewords.tables import MOST_LEFT

MOST_FIGURES = 13
MOST_DEEP = 20

# Of each line how many numbers, or what else, stand between its `:`.
LINE_FORMS = {
    "choice": (1,),
    "form": ("kinds",),
    "new": (1, "kinds", "kind"),
    "num": ("integer",),
    "nil": (0,),
    "sum": (2,),
    "less": (2,),
    "row": ("places",),
    "part": (2,),
    "way": (2, "kinds", "places"),
    "take": (1, "kinds", "places"),
    "box": (1,),
    "open": (1,),
    "put": (2,),
    "print": (1,),
    "body": (1, "kinds", "places"),
    "call": (1, "places"),
    "back": (1,),
    "if": (1,),
    "look": (2,),
}


class Scan:
    """The text of a kind, as far as it is read."""

    def __init__(self, text):
        self.text = text
        self.at = 0

    def passes(self, word):
        """Go over a word, if it is next; whether it is."""
        is_next = self.text[self.at:self.at + len(word)] == word
        if is_next:
            self.at += len(word)
        return is_next

    def asks_for(self, word):
        if not self.passes(word):
            raise BadText(1)

    def takes_number(self):
        start = self.at
        while self.text[self.at:self.at + 1].isdigit():
            self.at += 1
        number = natural_in(self.text[start:self.at], MOST_FIGURES)
        if number is None:
            raise BadText(1)
        return number

    def takes_kinds(self, deep):
        """The tuple of kinds with `,` between, one at least."""
        found = [self.takes_kind(deep)]
        while self.passes(","):
            found.append(self.takes_kind(deep))
        return tuple(found)

    def takes_kinds_at_most(self, deep, most):
        found = self.takes_kinds(deep)
        if len(found) > most:
            raise BadText(1)
        return found

    def takes_kind(self, deep):
        """The kind that is next, so many deep if it has none in it."""
        if deep > MOST_DEEP:
            raise BadText(1)
        for head in ("num", "nil"):
            if self.passes(head):
                return (head,)
        if self.passes("?"):
            return ("letter", self.takes_number())
        if self.passes("!"):
            return ("box", self.takes_kind(deep + 1))
        if self.passes("["):
            kinds = self.takes_kinds_at_most(deep + 1, MOST_ROW)
            self.asks_for("]")
            return ("row", kinds)
        if self.passes("#"):
            return self.takes_choice_kind(deep)
        self.asks_for("<")
        kinds = self.takes_kinds_at_most(deep + 1, MOST_LEFT)
        self.asks_for(":")
        kind = self.takes_kind(deep + 1)
        self.asks_for(">")
        return ("fun", kinds, kind)

    def takes_choice_kind(self, deep):
        number = self.takes_number()
        kinds = ()
        if self.passes("("):
            kinds = self.takes_kinds(deep + 1)
            self.asks_for(")")
        return ("data", number, kinds)


def read_kind(text):
    """The kind that a text is of."""
    if not isinstance(text, str):
        raise BadText(0)
    scan = Scan(text)
    kind = scan.takes_kind(1)
    if scan.at < len(text):
        raise BadText(1)
    return kind


def kinds_in(words):
    """The tuple of the kinds that words are, or None."""
    try:
        return tuple([read_kind(word) for word in words])
    except BadText:
        return None


def part_in(words, form):
    """The tuple of what a part of a line tells, or None if it has not this form."""
    if form == "kinds":
        kinds = kinds_in(words)
        return None if kinds is None else (kinds,)
    if form == "places":
        places = naturals_in(words, MOST_FIGURES)
        return None if places is None else (places,)
    if len(words) != (form if isinstance(form, int) else 1):
        return None
    if form == "kind":
        return kinds_in(words)
    if form == "integer":
        number = integer_in(words[0], MOST_FIGURES)
        return None if number is None else (number,)
    return naturals_in(words, MOST_FIGURES)


def parts_of(words):
    """The lists of the words between those that are `:`."""
    parts = [[]]
    for word in words:
        if word == ":":
            parts.append([])
        else:
            parts[-1].append(word)
    return parts


def row_in(line):
    """The tuple of the head of a line and what it tells, or None if it has none of the forms."""
    head, *words = line.split(" ")
    forms = LINE_FORMS.get(head)
    parts = parts_of(words)
    if forms is None or len(forms) != len(parts):
        return None
    row = (head,)
    for part, form in zip(parts, forms):
        told = part_in(part, form)
        if told is None:
            return None
        row = row + told
    if head == "way":
        _, number, way, kinds, places = row
        return (head, number, kinds, way, places)
    return row


class OpenBlock:
    """A block that is being read, with the blocks within that are."""

    def __init__(self):
        self.rows = []
        self.end = None
        self.due = 0
        self.within = []

    def ends(self, row):
        """Take an end, with how many blocks are due within."""
        self.end = row[:2]
        if row[0] != "back":
            self.due = row[2] if row[0] == "look" else 2

    def is_done(self):
        """Whether all blocks within are read, the end having been taken."""
        return len(self.within) == self.due

    def whole(self):
        within = tuple(self.within)
        if self.end[0] == "look":
            within = (within,)
        return (tuple(self.rows), (*self.end, *within))


class Lines:
    """The lines of a program's text, as far as they are read."""

    def __init__(self):
        self.book = []
        self.bodies = []
        self.head = None
        self.blocks = []

    def takes(self, row):
        """Take a line; whether it can stand behind those that were taken."""
        if row[0] == "choice":
            return self.takes_choice(row)
        if row[0] == "form":
            return self.takes_form(row)
        if row[0] == "new":
            return self.takes_body(row)
        if not self.blocks:
            return False
        if row[0] in ("back", "if", "look"):
            self.takes_end(row)
        else:
            self.blocks[-1].rows.append(row)
        return True

    def takes_choice(self, row):
        self.book.append((row[1], []))
        return self.head is None

    def takes_form(self, row):
        if self.head is not None or not self.book:
            return False
        self.book[-1][1].append(row[1])
        return True

    def takes_body(self, row):
        if self.blocks:
            return False
        self.head = row[1:]
        self.blocks.append(OpenBlock())
        return True

    def takes_end(self, row):
        self.blocks[-1].ends(row)
        while self.blocks and self.blocks[-1].is_done():
            block = self.blocks.pop().whole()
            if self.blocks:
                self.blocks[-1].within.append(block)
            else:
                self.bodies.append((*self.head, block))
        if self.blocks:
            self.blocks.append(OpenBlock())

    def told_program(self):
        return Program(tuple([(letters, tuple(ways)) for letters, ways in self.book]), tuple(self.bodies))


def read_program(text):
    """The program that a text is of."""
    if not isinstance(text, str):
        raise BadText(0)
    lines = Lines()
    closed = text.split("\n")
    behind = closed.pop()
    for at, line in enumerate(closed):
        row = row_in(line)
        if row is None or not lines.takes(row):
            raise BadText(at + 1)
    if behind != "" or lines.blocks:
        raise BadText(len(closed) + 1)
    return lines.told_program()
