"""What the document says of texts, told once more in the shortest way, by recursion and regular expressions."""

import re

from naive_states import whole_kind

N = r"(?:0|[1-9][0-9]{0,12})"
GROUPS = {
    "n": rf" ({N})", "k": r"((?: (?!:(?: |$))[^ \n]+)*)", "p": rf"((?: {N})*)", "i": r" (0|-?[1-9][0-9]{0,12})", ":": " :",
    "o": r"( [^ \n]+)"}
# Of each line what follows its head: n a number, i an integer, k kinds, o one kind, p places.
FORMS = {
    "choice": "n", "form": "k", "new": "n:k:o", "num": "i", "nil": "", "sum": "nn", "less": "nn", "row": "p", "part": "nn",
    "way": "nn:k:p", "take": "n:k:p", "box": "n", "open": "n", "put": "nn", "print": "n", "body": "n:k:p", "call": "n:p",
    "back": "n", "if": "n", "look": "nn"}


class Bad(Exception):
    pass


def naive_kind_text(kind):
    def joined(kinds):
        return ",".join(map(naive_kind_text, kinds))
    return {
        "num": lambda: "num", "nil": lambda: "nil", "letter": lambda: f"?{kind[1]}", "box": lambda: "!" + joined(kind[1:]),
        "row": lambda: f"[{joined(kind[1])}]", "fun": lambda: f"<{joined(kind[1])}:{joined(kind[2:])}>",
        "data": lambda: f"#{kind[1]}({joined(kind[2])})" if kind[2] else f"#{kind[1]}"}[kind[0]]()


def naive_text(book, bodies):
    def kinds(them):
        return "".join(" " + naive_kind_text(kind) for kind in them)

    def places(them):
        return "".join(f" {place}" for place in them)

    def step(one):
        if one[0] == "way":
            return f"way {one[1]} {one[3]} :{kinds(one[2])} :{places(one[4])}\n"
        if one[0] in ("take", "body"):
            return f"{one[0]} {one[1]} :{kinds(one[2])} :{places(one[3])}\n"
        if one[0] == "call":
            return f"call {one[1]} :{places(one[2])}\n"
        return one[0] + places(one[1] if one[0] == "row" else one[1:]) + "\n"

    def block(one):
        steps, end = one
        text = "".join(map(step, steps))
        if end[0] == "look":
            return text + f"look {end[1]} {len(end[2])}\n" + "".join(map(block, end[2]))
        return text + f"{end[0]} {end[1]}\n" + "".join(map(block, end[2:]))
    text = ""
    for letters, ways in book:
        text += f"choice {letters}\n" + "".join(f"form{kinds(way)}\n" for way in ways)
    for letters, handed, answer, one in bodies:
        text += f"new {letters} :{kinds(handed)} :{kinds([answer])}\n" + block(one)
    return text


class Reader:
    def __init__(self, text):
        *self.lines, behind = text.split("\n")
        self.at = 0
        self.read()
        if behind:
            raise Bad(len(self.lines) + 1)

    def peek(self):
        return self.lines[self.at].split(" ")[0] if self.at < len(self.lines) else None

    def next(self, *heads):
        """What the next line tells, behind its head, which must be one of these, or any of a block's if none is told."""
        self.at += 1
        if self.at > len(self.lines):
            raise Bad(self.at)
        line = self.lines[self.at - 1]
        head = line.split(" ")[0]
        if head not in FORMS or (head not in heads if heads else head in ("choice", "form", "new")):
            raise Bad(self.at)
        found = re.fullmatch(head + "".join(GROUPS[one] for one in FORMS[head]), line)
        if not found:
            raise Bad(self.at)
        return head, [self.words(one, group) for one, group in zip(FORMS[head].replace(":", ""), found.groups())]

    def words(self, one, group):
        if one in "ni":
            return int(group)
        if one == "p":
            return tuple(map(int, group.split()))
        kinds = tuple(map(whole_kind, group.split(" ")[1:]))
        if None in kinds:
            raise Bad(self.at)
        return kinds

    def read(self):
        self.book, self.bodies = (), ()
        while self.peek() == "choice":
            letters, ways = self.next("choice")[1][0], ()
            while self.peek() == "form":
                ways += (self.next("form")[1][0],)
            self.book += ((letters, ways),)
        while self.at < len(self.lines):
            letters, places, answer = self.next("new")[1]
            self.bodies += ((letters, places, answer[0], self.block()),)

    def block(self):
        steps = ()
        while True:
            head, rest = self.next()
            if head == "back":
                return steps, ("back", *rest)
            if head == "if":
                return steps, ("if", *rest, self.block(), self.block())
            if head == "look":
                return steps, ("look", rest[0], tuple(self.block() for _ in range(rest[1])))
            if head == "way":
                rest = [rest[0], rest[2], rest[1], rest[3]]
            steps += ((head, *rest),)


def naive_program(text):
    """The pair of a book and bodies, or the line that BadText names."""
    try:
        reader = Reader(text)
    except Bad as bad:
        return bad.args[0]
    return reader.book, reader.bodies
