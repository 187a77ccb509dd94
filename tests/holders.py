"""Right programs made by chance, full of functions that took along things whose kinds letters stand for.

A body takes and calls bodies behind it alone, so that runs soon come to much.
"""

from naive import fill, size, within
from samples import A, B, EITHER, LISTS, NIL, NUM, TRUTH, box, data, fun, row

BOOK = (LISTS, TRUTH, EITHER)


def matches(kind, other, found):
    """Whether the kinds found for letters, and perhaps more of them, make the one kind the other one."""
    if kind[0] == "letter":
        return found.setdefault(kind[1], other) == other
    if kind[0] != other[0] or len(within(kind)) != len(within(other)) or kind[0] == "data" and kind[1] != other[1]:
        return False
    return all(matches(one, two, found) for one, two in zip(within(kind), within(other)))


class Holders:
    def __init__(self, chance, many):
        self.chance = chance
        self.many = many
        self.bodies = {}
        for number in reversed(range(many)):
            self.bodies[number] = self.body(number)

    def body(self, number):
        chance = self.chance
        self.number = number
        self.letters = chance.choice([0, 1, 1, 2]) if number else 0
        places = tuple(self.held() for _ in range(chance.randint(1, 4))) if number else (NUM,) * chance.randint(1, 3)
        if number and chance.random() < 0.6:
            places = (*places, NUM)
        table = list(places)
        steps = [self.step(table) for _ in range(chance.randint(1, 7) if number else chance.randint(6, 16))]
        answer = NUM
        if number and chance.random() < 0.4:
            answer = chance.choice([kind for kind in table if size(kind) < 12] + [NUM])
        return (self.letters, places, answer, self.block(steps, table, answer, 1))

    def held(self):
        """What bodies are handed, most often with a letter in it."""
        one, two = [(NUM, NIL), (A, A), (A, B)][self.letters]
        return self.chance.choice([
            one, one, two, NUM, fun([one], NUM), fun([NUM], two), fun([one], two), fun([NUM], NUM), box(one),
            row(two, NUM), data(0, one), data(2, one, two), data(0, box(two)), fun([NUM], NUM), fun([one], NUM)])

    def block(self, steps, table, answer, deep):
        """The block of these steps, with an end that has blocks within at times."""
        if answer not in table:
            steps, table = steps + [("num", 3)], table + [NUM]
        choices = [place for place, kind in enumerate(table) if kind[0] == "data"]
        numbers = [place for place, kind in enumerate(table) if kind == NUM]
        word = self.chance.choice(["back", "back", "if", "look"]) if deep < 3 else "back"
        if word == "look" and choices:
            place = self.chance.choice(choices)
            ways = [[fill(part, table[place][2]) for part in way] for way in BOOK[table[place][1]][1]]
            return (tuple(steps), (word, place, tuple(self.inner(table + way, answer, deep) for way in ways)))
        if word == "if" and numbers:
            blocks = tuple(self.inner(list(table), answer, deep) for _ in range(2))
            return (tuple(steps), (word, self.chance.choice(numbers)) + blocks)
        return (tuple(steps), ("back", self.chance.choice([place for place, kind in enumerate(table) if kind == answer])))

    def inner(self, table, answer, deep):
        steps = [self.step(table) for _ in range(self.chance.randrange(3))]
        return self.block(steps, table, answer, deep + 1)

    def step(self, table):
        """A step that can stand behind this table, which has its place then."""
        while True:
            word = "call" if table[-1][0] == "fun" and self.chance.random() < 0.5 else self.chance.choice([
                "num", "nil", "sum", "less", "print", "row", "part", "box", "open", "put", "way", "way", "take", "take",
                "take", "take", "body", "body", "call", "call", "call"])
            made = getattr(self, word + "_step")(table)
            if made is not None and size(made[1]) <= 30:
                table.append(made[1])
                return made[0]

    def place(self, table, test):
        """A place of a kind that passes a test, the later ones more often; None if there is none."""
        places = [place for place, kind in enumerate(table) if test(kind)]
        return max(self.chance.choice(places), self.chance.choice(places)) if places else None

    def just(self, table, kinds):
        """Places of just these kinds, or None."""
        if not all(kind in table for kind in kinds):
            return None
        return tuple(self.place(table, lambda one, kind=kind: one == kind) for kind in kinds)

    def places(self, table, kinds, found):
        """Places for kinds, by further kinds for their letters, or None."""
        places = []
        for kind in kinds:
            there = list(range(len(table)))
            self.chance.shuffle(there)
            for place in there:
                more = dict(found)
                if matches(kind, table[place], more):
                    found.update(more)
                    places.append(place)
                    break
            else:
                return None
        return tuple(places)

    def kinds(self, table, letters, found):
        kinds = tuple(found.get(at) or self.chance.choice(table + [NUM]) for at in range(letters))
        return kinds if all(size(kind) <= 9 for kind in kinds) else None

    def num_step(self, table):
        return ("num", self.chance.randint(-2, 4)), NUM

    def nil_step(self, table):
        return ("nil",), NIL

    def sum_step(self, table, word="sum"):
        pair = self.just(table, [NUM, NUM])
        return pair and ((word,) + pair, NUM)

    def less_step(self, table):
        return self.sum_step(table, "less")

    def print_step(self, table):
        place = self.place(table, lambda kind: kind == NUM)
        return None if place is None else (("print", place), NIL)

    def row_step(self, table):
        places = tuple(self.chance.randrange(len(table)) for _ in range(self.chance.randint(1, 3)))
        return ("row", places), row(*[table[place] for place in places])

    def part_step(self, table):
        place = self.place(table, lambda kind: kind[0] == "row")
        if place is None:
            return None
        at = self.chance.randrange(len(table[place][1]))
        return ("part", place, at), table[place][1][at]

    def box_step(self, table):
        place = self.chance.randrange(len(table))
        return ("box", place), box(table[place])

    def open_step(self, table):
        place = self.place(table, lambda kind: kind[0] == "box")
        return None if place is None else (("open", place), table[place][1])

    def put_step(self, table):
        place = self.place(table, lambda kind: kind[0] == "box" and kind[1] in table)
        return None if place is None else (("put", place) + self.just(table, table[place][1:]), NIL)

    def call_step(self, table):
        place = self.place(table, lambda kind: kind[0] == "fun")
        if table[-1][0] == "fun" and self.chance.random() < 0.5:
            place = len(table) - 1
        places = None if place is None else self.just(table, table[place][1])
        return places and (("call", place, places), table[place][2])

    def way_step(self, table):
        number = self.chance.randrange(len(BOOK))
        letters, ways = BOOK[number]
        way = self.chance.randrange(len(ways))
        found = {}
        places = self.places(table, ways[way], found)
        kinds = self.kinds(table, letters, found)
        return None if places is None or kinds is None else (("way", number, kinds, way, places), data(number, *kinds))

    def body_step(self, table):
        number = self.chance.randrange(self.number, self.many)
        return None if number == self.number else self.step_of("body", number, table, len(self.bodies[number][1]))

    def take_step(self, table):
        number = self.chance.randrange(self.number, self.many)
        if number == self.number:
            return None
        most = len(self.bodies[number][1]) - 1
        return self.step_of("take", number, table, self.chance.randint(max(0, most - 2), most))

    def step_of(self, word, number, table, many):
        """The step that hands so many places to a body."""
        letters, places, answer, _ = self.bodies[number]
        found = {}
        handed = self.places(table, places[:many], found)
        kinds = self.kinds(table, letters, found)
        if handed is None or kinds is None:
            return None
        answer = fill(answer, kinds)
        kind = fun([fill(one, kinds) for one in places[many:]], answer) if word == "take" else answer
        return (word, number, kinds, handed), kind


def made_holders(chance):
    """The pair of a book and bodies of a right program."""
    maker = Holders(chance, chance.randint(3, 7))
    return BOOK, tuple(maker.bodies[number] for number in range(maker.many))
