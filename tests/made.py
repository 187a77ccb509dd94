"""Right programs made by chance, and what is much like them."""

from samples import A, B, LISTS, NIL, NUM, TRUTH, box, data, fun, letter, row

PAIRS = (2, ((A, B), (B,)))
TREES = (1, ((A,), (box(data(3, A)), data(3, A), fun([A], data(0, A)))))
BOOKS = ((), (LISTS,), (LISTS, TRUTH), (LISTS, TRUTH, PAIRS), (LISTS, TRUTH, PAIRS, TREES))


class Maker:
    def __init__(self, chance):
        self.chance = chance
        self.book = chance.choice(BOOKS)
        self.heads = [(0, (NUM,) * chance.randrange(4), NUM)]
        for _ in range(chance.randrange(6)):
            letters = chance.randrange(3)
            places = tuple(self.kind(letters, 2) for _ in range(chance.randrange(5)))
            self.heads.append((letters, places, self.kind(letters, 2)))

    def kind(self, letters, deep):
        chance = self.chance
        word = chance.choice(["num", "num", "nil", "letter", "row", "data", "fun", "box"])
        if word == "letter" and letters:
            return letter(chance.randrange(letters))
        if word == "data" and self.book and deep:
            number = chance.randrange(len(self.book))
            return data(number, *[self.kind(letters, deep - 1) for _ in range(self.book[number][0])])
        if word == "row" and deep:
            return row(*[self.kind(letters, deep - 1) for _ in range(chance.randint(1, 3))])
        if word == "fun" and deep:
            return fun([self.kind(letters, deep - 1) for _ in range(chance.randint(1, 2))],
                       self.kind(letters, deep - 1))
        if word == "box" and deep:
            return box(self.kind(letters, deep - 1))
        return NIL if word == "nil" else NUM

    def bodies(self):
        return tuple(head + (self.body_block(number),) for number, head in enumerate(self.heads))

    def body_block(self, number):
        self.number = number
        self.left = 45
        return self.block(list(self.heads[number][1]), 1)

    def block(self, table, deep):
        steps = []
        for _ in range(self.chance.randrange(8 if deep == 1 else 4)):
            self.any_step(steps, table)
        numbers = [place for place, kind in enumerate(table) if kind == NUM]
        choices = [place for place, kind in enumerate(table) if kind[0] == "data"]
        word = self.chance.choice(["back", "if", "look"]) if deep < 4 and self.left > 10 else "back"
        if word == "if" and numbers:
            blocks = tuple(self.block(list(table), deep + 1) for _ in range(2))
            return (tuple(steps), ("if", self.chance.choice(numbers)) + blocks)
        if word == "look" and choices:
            place = self.chance.choice(choices)
            _, number, kinds = table[place]
            blocks = tuple(self.block(table + [put(part, kinds) for part in way], deep + 1)
                           for way in self.book[number][1])
            return (tuple(steps), ("look", place, blocks))
        place = self.place_of(self.heads[self.number][2], steps, table)
        return (tuple(steps), ("back", place))

    def add(self, steps, table, step, kind):
        self.left -= 1
        steps.append(step)
        table.append(kind)
        return len(table) - 1

    def place_of(self, kind, steps, table, deep=2):
        """A place of this kind, made if need be; in the last resort by a body that has no end."""
        there = [place for place, one in enumerate(table) if one == kind]
        if there and (self.chance.random() < 0.8 or self.left < 5):
            return self.chance.choice(there)
        if kind == NUM:
            return self.add(steps, table, ("num", self.chance.randint(-2, 3)), kind)
        if kind == NIL:
            return self.add(steps, table, ("nil",), kind)
        if self.left > 8 and deep:
            if kind[0] == "row":
                places = tuple(self.place_of(part, steps, table, deep - 1) for part in kind[1])
                return self.add(steps, table, ("row", places), kind)
            if kind[0] == "box":
                return self.add(steps, table, ("box", self.place_of(kind[1], steps, table, deep - 1)), kind)
            if kind[0] == "data":
                way = self.chance.randrange(len(self.book[kind[1]][1]))
                parts = [put(part, kind[2]) for part in self.book[kind[1]][1][way]]
                places = tuple(self.place_of(part, steps, table, deep - 1) for part in parts)
                return self.add(steps, table, ("way", kind[1], kind[2], way, places), kind)
        letters, places, answer = self.heads[self.number]
        if answer == kind:
            kinds = tuple(letter(number) for number in range(letters))
            return self.add(steps, table, ("body", self.number, kinds, tuple(range(len(places)))), kind)
        return self.endless(kind, steps, table)

    def endless(self, kind, steps, table):
        """A place of any kind, by a body with a letter that hands on what it is handed to itself."""
        if (1, (), A) not in self.heads:
            self.heads.append((1, (), A))
        return self.add(steps, table, ("body", self.heads.index((1, (), A)), (kind,), ()), kind)

    def any_step(self, steps, table):
        if self.left < 12:
            return
        chance = self.chance
        word = chance.choice(["num", "sum", "less", "row", "part", "box", "open", "put", "print", "call", "call",
                              "take", "take", "body", "body", "kind"])
        with_head = [place for place, kind in enumerate(table) if kind[0] == {
            "part": "row", "open": "box", "put": "box", "call": "fun"}.get(word)]
        if word == "num":
            self.place_of(NUM, steps, table)
        elif word in ("sum", "less"):
            pair = tuple(self.place_of(NUM, steps, table) for _ in range(2))
            self.add(steps, table, (word,) + pair, NUM)
        elif word == "print":
            self.add(steps, table, (word, self.place_of(NUM, steps, table)), NIL)
        elif word == "row" and table:
            places = tuple(chance.randrange(len(table)) for _ in range(chance.randint(1, 3)))
            kind = row(*[table[place] for place in places])
            if len(str(kind)) < 400:
                self.add(steps, table, ("row", places), kind)
        elif word == "box" and table:
            place = chance.randrange(len(table))
            self.add(steps, table, ("box", place), box(table[place]))
        elif word == "kind":
            self.place_of(self.kind(self.heads[self.number][0], 2), steps, table)
        elif word in ("take", "body"):
            self.body_step(word, steps, table)
        elif with_head:
            self.step_into(word, chance.choice(with_head), steps, table)

    def step_into(self, word, place, steps, table):
        kind = table[place]
        if word == "part":
            at = self.chance.randrange(len(kind[1]))
            self.add(steps, table, ("part", place, at), kind[1][at])
        elif word == "open":
            self.add(steps, table, ("open", place), kind[1])
        elif word == "put":
            self.add(steps, table, ("put", place, self.place_of(kind[1], steps, table)), NIL)
        else:
            places = tuple(self.place_of(one, steps, table, 1) for one in kind[1])
            self.add(steps, table, ("call", place, places), kind[2])

    def body_step(self, word, steps, table):
        number = self.chance.randrange(len(self.heads))
        letters, places, answer = self.heads[number]
        kinds = tuple(self.kind(self.heads[self.number][0], 1) for _ in range(letters))
        asked = [put(place, kinds) for place in places]
        many = len(asked)
        if word == "take":
            if not asked:
                return
            many = self.chance.randint(max(0, len(asked) - 3), len(asked) - 1)
        handed = tuple(self.place_of(kind, steps, table, 1) for kind in asked[:many])
        answer = put(answer, kinds)
        kind = fun(asked[many:], answer) if word == "take" else answer
        self.add(steps, table, (word, number, kinds, handed), kind)


def put(kind, kinds):
    from naive import fill
    return fill(kind, kinds)


def made_program(chance):
    """The pair of a book and bodies, most often of a right program."""
    maker = Maker(chance)
    found = maker.bodies()
    while len(found) < len(maker.heads):
        # Bodies that were asked for on the way have their own places handed on.
        maker.heads, ahead = maker.heads, found
        found = ahead + tuple(head + (maker.body_block(len(ahead) + at),) for at, head in enumerate(
            maker.heads[len(ahead):]))
    return maker.book, found


def spots(thing, ahead=()):
    """The ways to all things within a thing."""
    found = [ahead]
    if isinstance(thing, tuple):
        for at, item in enumerate(thing):
            found.extend(spots(item, ahead + (at,)))
    return found


def at_spot(thing, spot):
    for at in spot:
        thing = thing[at]
    return thing


def with_other(thing, spot, other):
    if not spot:
        return other
    at = spot[0]
    return thing[:at] + (with_other(thing[at], spot[1:], other),) + thing[at + 1:]


def much_like(chance, thing):
    """The thing with something in it exchanged."""
    ways = spots(thing)
    spot = chance.choice(ways)
    old = at_spot(thing, spot)
    what = chance.randrange(8)
    if isinstance(old, int) and what < 6:
        other = chance.choice([old + 1, old - 1, -1, 0, 1, 2, old + 2, bool(old), True])
    elif isinstance(old, tuple) and what < 3:
        other = old[:-1] if what else old + (at_spot(thing, chance.choice(ways)),)
    elif what == 3:
        other = chance.choice([None, (), [], "num", NUM, NIL, A, B, letter(2), box(NUM), ("back", 0), ("nil",), True])
    elif what == 4 and isinstance(old, tuple):
        other = list(old)
    else:
        other = at_spot(thing, chance.choice(ways))
    return with_other(thing, spot, other)
