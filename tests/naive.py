"""What the document says of programs and plain runs, told once more in the shortest way.

By recursion and Python's own comparisons, for small programs alone.
"""


def is_int(thing, low=0, high=None):
    return type(thing) is int and thing >= low and (high is None or thing <= high)


def is_tup(thing, low=0, high=None):
    return type(thing) is tuple and len(thing) >= low and (high is None or len(thing) <= high)


def kinds_form(thing, low=0, high=None):
    return is_tup(thing, low, high) and all(kind_form(item) for item in thing)


def kind_form(thing):
    if not is_tup(thing, 1):
        return False
    word, many = thing[0], len(thing)
    if word == "num" or word == "nil":
        return many == 1
    if word == "row":
        return many == 2 and kinds_form(thing[1], 1, 4)
    if word == "data":
        return many == 3 and is_int(thing[1]) and kinds_form(thing[2])
    if word == "fun":
        return many == 3 and kinds_form(thing[1], 1, 3) and kind_form(thing[2])
    if word == "box":
        return many == 2 and kind_form(thing[1])
    return word == "letter" and many == 2 and is_int(thing[1])


def within(kind):
    return {"row": lambda: kind[1], "data": lambda: kind[2], "fun": lambda: kind[1] + (kind[2],),
            "box": lambda: kind[1:]}.get(kind[0], tuple)()


def size(kind):
    return 1 + sum(map(size, within(kind)))


def depth(kind):
    return 1 + max(map(depth, within(kind)), default=0)


def fill(kind, kinds):
    if kind[0] == "letter":
        return kinds[kind[1]]
    if kind[0] == "row":
        return ("row", fill_all(kind[1], kinds))
    if kind[0] == "data":
        return ("data", kind[1], fill_all(kind[2], kinds))
    if kind[0] == "fun":
        return ("fun", fill_all(kind[1], kinds), fill(kind[2], kinds))
    return ("box", fill(kind[1], kinds)) if kind[0] == "box" else kind


def fill_all(kinds, letters):
    return tuple(fill(kind, letters) for kind in kinds)


def letters_of(things, many, most):
    return [thing[0] if is_tup(thing, many, many) and is_int(thing[0], 0, most) else 0 for thing in things]


def written(kind, letters, counts):
    def names(one):
        if one[0] == "letter" and one[1] >= letters:
            return False
        if one[0] == "data" and (one[1] >= len(counts) or len(one[2]) != counts[one[1]]):
            return False
        return all(map(names, within(one)))
    return depth(kind) <= 8 and size(kind) <= 40 and names(kind)


class Checker:
    def __init__(self, book, bodies):
        self.book, self.bodies = book, bodies

    def part(self):
        if not is_tup(self.book, 0, 6):
            return ("book", -1)
        self.counts = letters_of(self.book, 2, 3)
        for number, choice in enumerate(self.book):
            if not (is_tup(choice, 2, 2) and is_int(choice[0], 0, 3) and is_tup(choice[1], 1, 4) and all(
                    kinds_form(way, 0, 3) and all(written(kind, choice[0], self.counts) for kind in way)
                    for way in choice[1])):
                return ("book", number)
        if not is_tup(self.bodies, 1, 12):
            return ("bodies",)
        self.body_counts = letters_of(self.bodies, 4, 4)
        for number, body in enumerate(self.bodies):
            self.many, self.right_kinds = 0, True
            if not self.body_form(body):
                return ("body", number, "form")
            if not self.right_kinds:
                return ("body", number, "kinds")
            if number == 0 and (body[0], set(body[1]) | {body[2]}) != (0, {("num",)}):
                return ("body", number, "first")
        for number, body in enumerate(self.bodies):
            point = self.block_fault(body, body[3], body[1], ())
            if point is not None:
                return ("step", number, point)
        return None

    def body_form(self, body):
        if not (is_tup(body, 4, 4) and is_int(body[0], 0, 4) and kinds_form(body[1], 0, 5) and kind_form(body[2])):
            return False
        self.letters = body[0]
        self.see_kinds(body[1] + (body[2],))
        return self.block_form(body[3], 1) and self.many <= 60

    def see_kinds(self, kinds):
        if not all(written(kind, self.letters, self.counts) for kind in kinds):
            self.right_kinds = False

    def see_step_kinds(self, kinds, many):
        self.see_kinds(kinds)
        if len(kinds) != many:
            self.right_kinds = False
        return True

    def block_form(self, block, deep):
        if not (deep <= 6 and is_tup(block, 2, 2) and is_tup(block[0])):
            return False
        self.many += len(block[0])
        if not all(map(self.step_form, block[0])):
            return False
        end = block[1]
        if not is_tup(end, 2) or not is_int(end[1]):
            return False
        if end[0] == "back":
            return len(end) == 2
        if end[0] == "if":
            return len(end) == 4 and self.block_form(end[2], deep + 1) and self.block_form(end[3], deep + 1)
        if end[0] == "look":
            return len(end) == 3 and is_tup(end[2]) and all(self.block_form(one, deep + 1) for one in end[2])
        return False

    def step_form(self, step):
        if not is_tup(step, 1):
            return False
        word, *rest = step
        many = len(rest)

        def places(thing, low=0, high=None):
            return is_tup(thing, low, high) and all(map(is_int, thing))
        if word == "nil":
            return many == 0
        if word == "num":
            return many == 1 and is_int(rest[0], -10 ** 12, 10 ** 12)
        if word in ("sum", "less", "part", "put"):
            return many == 2 and is_int(rest[0]) and is_int(rest[1])
        if word in ("box", "open", "print"):
            return many == 1 and is_int(rest[0])
        if word == "row":
            return many == 1 and places(rest[0], 1, 4)
        if word == "call":
            return many == 2 and is_int(rest[0]) and places(rest[1])
        if word == "way":
            return (many == 4 and is_int(rest[0], 0, len(self.book) - 1) and kinds_form(rest[1])
                    and is_int(rest[2], 0, len(self.book[rest[0]][1]) - 1) and places(rest[3])
                    and self.see_step_kinds(rest[1], self.counts[rest[0]]))
        return (word in ("take", "body") and many == 3 and is_int(rest[0], 0, len(self.bodies) - 1)
                and kinds_form(rest[1]) and places(rest[2])
                and self.see_step_kinds(rest[1], self.body_counts[rest[0]]))

    def block_fault(self, body, block, table, ahead):
        steps, end = block
        for at, step in enumerate(steps):
            try:
                kind = self.kind_of(step, table)
                assert size(kind) <= 400
            except (AssertionError, IndexError):
                return ahead + (at,)
            table += (kind,)
        point = ahead + (len(steps),)
        try:
            tables = self.tables_within(body, end, table)
        except (AssertionError, IndexError):
            return point
        for number, inner in enumerate(tables):
            one = (end[2:] if end[0] == "if" else end[2])[number]
            fault = self.block_fault(body, one, inner, point + (number,))
            if fault is not None:
                return fault
        return None

    def tables_within(self, body, end, table):
        if end[0] == "back":
            assert table[end[1]] == body[2]
            return []
        if end[0] == "if":
            assert table[end[1]] == ("num",)
            return [table, table]
        word, *rest = table[end[1]]
        assert word == "data" and len(self.book[rest[0]][1]) == len(end[2])
        parts = [fill_all(way, rest[1]) for way in self.book[rest[0]][1]]
        assert all(size(part) <= 400 for way in parts for part in way)
        return [table + way for way in parts]

    def kind_of(self, step, table):
        word, *rest = step
        if word in ("num", "nil"):
            return (word,)
        if word in ("sum", "less"):
            assert table[rest[0]] == table[rest[1]] == ("num",)
            return ("num",)
        if word == "row":
            return ("row", tuple(table[place] for place in rest[0]))
        if word == "print":
            assert table[rest[0]] == ("num",)
            return ("nil",)
        if word == "box":
            return ("box", table[rest[0]])
        if word in ("part", "open", "put", "call"):
            return self.kind_within(word, rest, table)
        if word == "way":
            parts = fill_all(self.book[rest[0]][1][rest[2]], rest[1])
            assert parts == tuple(table[place] for place in rest[3])
            return ("data", rest[0], rest[1])
        _, places, answer, _ = self.bodies[rest[0]]
        places, answer = fill_all(places, rest[1]), fill(answer, rest[1])
        handed = tuple(table[place] for place in rest[2])
        if word == "body":
            assert places == handed
            return answer
        left = places[len(handed):]
        assert places[:len(handed)] == handed and 1 <= len(left) <= 3
        return ("fun", left, answer)

    def kind_within(self, word, rest, table):
        kind = table[rest[0]]
        assert kind[0] == {"part": "row", "open": "box", "put": "box", "call": "fun"}[word]
        if word == "part":
            return kind[1][rest[1]]
        if word == "open":
            return kind[1]
        if word == "put":
            assert kind[1] == table[rest[1]]
            return ("nil",)
        assert kind[1] == tuple(table[place] for place in rest[1])
        return kind[2]


def naive_part(book, bodies):
    return Checker(book, bodies).part()


class Enough(Exception):
    pass


class Runner:
    """Runs by recursion; said has pairs of a number and how many steps and ends were begun then."""

    def __init__(self, bodies, most):
        self.bodies, self.most, self.done, self.said = bodies, most, 0, []

    def count(self):
        if self.done == self.most:
            raise Enough()
        self.done += 1

    def run(self, inputs):
        answer = self.body(0, list(inputs))
        self.said.append((answer, self.done))

    def body(self, number, worths):
        steps, end = self.bodies[number][3]
        while True:
            for step in steps:
                self.count()
                worths.append(self.worth(step[0], step[1:], worths))
            self.count()
            worth = worths[end[1]]
            if end[0] == "back":
                return worth
            if end[0] == "look":
                worths.extend(worth[1])
                steps, end = end[2][worth[0]]
            else:
                steps, end = end[3 if worth == 0 else 2]

    def worth(self, word, rest, worths):
        def at(places):
            return [worths[place] for place in places]
        if word == "num":
            return rest[0]
        if word == "sum":
            return sum(at(rest))
        if word == "less":
            return int(worths[rest[0]] < worths[rest[1]])
        if word == "row":
            return at(rest[0])
        if word == "part":
            return worths[rest[0]][rest[1]]
        if word == "way":
            return rest[2], at(rest[3])
        if word == "take":
            return rest[0], at(rest[2])
        if word == "box":
            return at(rest)
        if word == "open":
            return worths[rest[0]][0]
        if word == "put":
            worths[rest[0]][0] = worths[rest[1]]
        if word == "print":
            self.said.append((worths[rest[0]], self.done))
        if word == "body":
            return self.body(rest[0], at(rest[2]))
        if word == "call":
            number, taken = worths[rest[0]]
            return self.body(number, taken + at(rest[1]))
        return "nothing"


def naive_run(bodies, inputs, most):
    """The triple of what was said, how much was done, whether it is over."""
    runner = Runner(bodies, most)
    try:
        runner.run(inputs)
    except Enough:
        return runner.said, runner.done, False
    return runner.said, runner.done, True
