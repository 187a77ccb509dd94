"""What the document says of states, kindings and sources, told once more in the shortest way.

By recursion, substitutions and Python's own comparisons, for small states alone.
"""

from itertools import product

from naive import fill, fill_all, kind_form, letters_of, within

LINKS = ("row", "data", "fun", "box")
HEADS = ("num",) + LINKS


def row_and_table(program, body, point):
    """The step or end at a point and the table there, by going through the block once more."""
    from naive import Checker
    checker = Checker(program.book, program.bodies)
    checker.counts = letters_of(program.book, 2, 3)
    table = program.bodies[body][1]
    block = program.bodies[body][3]
    while True:
        steps, end = block
        for step in steps[:point[0]]:
            table += (checker.kind_of(step, table),)
        if len(point) == 1:
            return (steps + (end,))[point[0]], table
        table = checker.tables_within(program.bodies[body], end, table)[point[1]]
        block = (end[2:] if end[0] == "if" else end[2])[point[1]]
        point = point[2:]


def naive_next(program, state, place):
    """The state behind one step or end more."""
    pile, heap, said = state
    cells = dict(heap)
    body, point, words = pile[-1]
    row = row_and_table(program, body, point)[0]
    word, *rest = row

    def at(places):
        return tuple(words[one] for one in places)

    def done(other, more=()):
        frame = (body, point[:-1] + (point[-1] + 1,), words + (other,))
        return pile[:-1] + (frame,), tuple(sorted(cells.items())), said + more

    def entered(block, more=()):
        frame = (body, point + (block, 0), words + tuple(more))
        return pile[:-1] + (frame,), heap, said
    if word in ("row", "way", "take", "box"):
        cells[place] = {
            "row": lambda: at(rest[0]), "way": lambda: (rest[2],) + at(rest[3]),
            "take": lambda: (rest[0],) + at(rest[2]), "box": lambda: at(rest)}[word]()
        return done(place)
    if word == "body":
        return pile + ((rest[0], (0,), at(rest[2])),), heap, said
    if word == "call":
        number, *taken = cells[words[rest[0]]]
        return pile + ((number, (0,), tuple(taken) + at(rest[1])),), heap, said
    if word == "back":
        if len(pile) == 1:
            return (), heap, said + at(rest)
        lower, below, ahead = pile[-2]
        frame = (lower, below[:-1] + (below[-1] + 1,), ahead + at(rest))
        return pile[:-2] + (frame,), heap, said
    if word == "if":
        return entered(1 if words[rest[0]] == 0 else 0)
    if word == "look":
        return entered(cells[words[rest[0]]][0], cells[words[rest[0]]][1:])
    if word == "put":
        cells[words[rest[0]]] = at(rest[1:])
        return done(0)
    if word == "print":
        return done(0, at(rest))
    return done({
        "num": lambda: rest[0], "nil": lambda: 0, "sum": lambda: sum(at(rest)),
        "less": lambda: int(words[rest[0]] < words[rest[1]]), "part": lambda: cells[words[rest[0]]][rest[1]],
        "open": lambda: cells[words[rest[0]]][0]}[word]())


class Wrong(Exception):
    pass


class Guess:
    """Kinds for frames, cells and spots; what is not told is a letter from 0 on, put in for by known."""

    def __init__(self, program, state, sources=None, chosen=()):
        self.program, self.pile, self.heap = program, state[0], dict(state[1])
        self.sources, self.known, self.many = sources, {}, 0
        self.cells, self.spots = {}, {}
        self.letters = [self.letters_for(body) for body, _, _ in self.pile]
        # What is chosen for the first letters, as far as it is still free.
        for letter, kind in chosen:
            self.known.setdefault(letter, kind)
        for at, (body, point, words) in enumerate(self.pile):
            row, table = row_and_table(program, body, point)
            for place, kind in enumerate(table):
                self.spots["pile", at, place] = (fill(kind, self.letters[at]), words[place])
            if at + 1 < len(self.pile) and self.asks(("wait", at)):
                self.wait(at, row, table)
        while self.goes_on():
            pass

    def asks(self, source):
        return self.sources is None or source in self.sources

    def letters_for(self, body):
        self.many += self.program.bodies[body][0]
        return tuple(("letter", self.many - at) for at in range(self.program.bodies[body][0], 0, -1))

    def wait(self, at, row, table):
        upper = self.pile[at + 1][0]
        if row[0] == "body":
            self.same(fill_all(row[2], self.letters[at]), self.letters[at + 1])
            return
        _, kinds, kind = table[row[1]]
        places = self.program.bodies[upper][1]
        places = places[len(places) - len(kinds):]
        self.same(fill_all(places + (self.program.bodies[upper][2],), self.letters[at + 1]),
                  fill_all(kinds + (kind,), self.letters[at]))

    def shallow(self, kind):
        while kind[0] == "letter" and kind[1] in self.known:
            kind = self.known[kind[1]]
        return kind

    def whole(self, kind):
        kind = self.shallow(kind)
        if kind[0] == "letter":
            return kind
        letters = [self.whole(one) for one in within(kind)]
        head = {"row": lambda: ("row", tuple(letters)), "data": lambda: ("data", kind[1], tuple(letters)),
                "fun": lambda: ("fun", tuple(letters[:-1]), letters[-1]), "box": lambda: ("box", letters[0])}
        return head.get(kind[0], lambda: kind)()

    def same(self, ones, others):
        if len(ones) != len(others):
            raise Wrong()
        for one, other in zip(ones, others):
            one, other = self.shallow(one), self.shallow(other)
            if one == other:
                continue
            if one[0] == "letter":
                self.known[one[1]] = other
            elif other[0] == "letter":
                self.known[other[1]] = one
            elif one[0] != other[0] or one[0] == "data" and one[1] != other[1]:
                raise Wrong()
            else:
                self.same(within(one), within(other))

    def goes_on(self):
        """Follow each spot once; whether anything came of it."""
        ahead = len(self.known), len(self.cells)
        for kind, word in list(self.spots.values()):
            kind = self.shallow(kind)
            if kind[0] not in LINKS:
                continue
            if word in self.cells:
                self.same([kind], [self.cells[word][0]])
                continue
            if word not in self.heap:
                raise Wrong()
            self.cells[word] = (kind, self.cell(word, kind))
        return ahead != (len(self.known), len(self.cells))

    def cell(self, place, kind):
        """The letters of a cell, its words being spots now."""
        cell, first = self.heap[place], 0
        asked, letters = within(kind), ()
        if kind[0] == "data":
            first = 1
            asked = fill_all(self.program.book[kind[1]][1][cell[0]], kind[2])
        if kind[0] == "fun":
            first = 1
            letters = self.letters_for(cell[0])
            places = fill_all(self.program.bodies[cell[0]][1], letters)
            asked = places[:len(cell) - 1]
            if self.asks(("cell", place)):
                self.same(places[len(asked):] + (fill(self.program.bodies[cell[0]][2], letters),), within(kind))
        if self.asks(("cell", place)):
            if len(asked) != len(cell) - first:
                raise Wrong()
            for at, one in enumerate(asked):
                self.spots["heap", place, first + at] = (one, cell[first + at])
        return letters

    def heads(self):
        """The told spots with their heads."""
        found = {spot: self.shallow(kind)[0] for spot, (kind, _) in self.spots.items()}
        return {spot: head for spot, head in found.items() if head in HEADS}

    def kinding(self, name):
        """The kinding in which name tells the kinds for letters that are free."""
        def told(kind):
            kind = self.whole(kind)
            letters = {}

            def seen(one):
                if one[0] == "letter":
                    letters.setdefault(one[1], name(one[1]))
                for inner in within(one):
                    seen(inner)
            seen(kind)
            return fill(kind, letters)
        frames = tuple(tuple(told(kind) for kind in letters) for letters in self.letters)
        cells = {}
        for place in sorted(self.cells):
            kind = told(self.cells[place][0])
            cells[place] = (kind, tuple(told(one) for one in self.cells[place][1]))
        return frames, cells


def naive_blank(program, state):
    return Guess(program, state).kinding(lambda letter: ("nil",))


def naive_general(program, state):
    numbers = {}
    return Guess(program, state).kinding(lambda letter: ("letter", numbers.setdefault(letter, len(numbers))))


def is_closed(thing):
    return kind_form(thing) and "letter" not in str(thing)


def are_closed(thing, many):
    return type(thing) is tuple and len(thing) == many and all(map(is_closed, thing))


def naive_is_kinding(program, state, thing, sources=None):
    """Whether a thing is a kinding by some sources, by all if none are told, in the document's own words."""
    if type(thing) is not tuple or len(thing) != 2:
        return False
    letters, cells = thing
    pile, heap = state[0], dict(state[1])
    if type(letters) is not tuple or len(letters) != len(pile) or type(cells) is not dict:
        return False
    if not all(are_closed(one, program.bodies[frame[0]][0]) for one, frame in zip(letters, pile)):
        return False
    for place, pair in cells.items():
        if type(place) is not int or place not in heap or type(pair) is not tuple or len(pair) != 2:
            return False
        kind, kinds = pair
        if not is_closed(kind) or kind[0] not in LINKS:
            return False
        if sources is not None and ("cell", place) not in sources:
            continue
        many = 0
        if kind[0] == "fun":
            if not heap[place] or not 0 <= heap[place][0] < len(program.bodies):
                return False
            many = program.bodies[heap[place][0]][0]
        if not are_closed(kinds, many):
            return False

    def fit(words, kinds):
        return len(words) == len(kinds) and all(
            kind[0] in ("num", "nil") or word in cells and cells[word][0] == kind for word, kind in zip(words, kinds))
    for at, (body, point, words) in enumerate(pile):
        row, table = row_and_table(program, body, point)
        if not fit(words, fill_all(table, letters[at])):
            return False
        if at + 1 < len(pile) and (sources is None or ("wait", at) in sources):
            upper, more = pile[at + 1][0], letters[at + 1]
            if row[0] == "body":
                if row[1] != upper or fill_all(row[2], letters[at]) != more:
                    return False
            else:
                _, kinds, kind = fill(table[row[1]], letters[at])
                places = fill_all(program.bodies[upper][1], more)
                if places[len(places) - len(kinds):] != kinds or fill(program.bodies[upper][2], more) != kind:
                    return False
    return all(form_holds(program, heap[place], kind, kinds, fit) for place, (kind, kinds) in cells.items()
               if sources is None or ("cell", place) in sources)


def form_holds(program, cell, kind, kinds, fit):
    if kind[0] in ("row", "box"):
        return fit(cell, within(kind))
    if kind[0] == "data":
        if kind[1] >= len(program.book) or len(kind[2]) != program.book[kind[1]][0] or not cell:
            return False
        ways = program.book[kind[1]][1]
        return 0 <= cell[0] < len(ways) and fit(cell[1:], fill_all(ways[cell[0]], kind[2]))
    places = fill_all(program.bodies[cell[0]][1], kinds)
    many = len(places) - len(kind[1])
    return (many >= 0 and fit(cell[1:], places[:many]) and places[many:] == kind[1]
            and fill(program.bodies[cell[0]][2], kinds) == kind[2])


def spot_heads(program, state, kinding, sources=None):
    """The dict from the spots of frames, and of cells with kinds, to the heads of their kinds in a kinding."""
    letters, cells = kinding
    heap, found = dict(state[1]), {}
    for at, (body, point, _) in enumerate(state[0]):
        for place, kind in enumerate(fill_all(row_and_table(program, body, point)[1], letters[at])):
            found["pile", at, place] = kind[0]
    for place, (kind, kinds) in cells.items():
        if sources is None or ("cell", place) in sources:
            cell = heap[place]
            first, inner = 0, within(kind)
            if kind[0] == "data":
                first, inner = 1, fill_all(program.book[kind[1]][1][cell[0]], kind[2])
            if kind[0] == "fun":
                first, inner = 1, fill_all(program.bodies[cell[0]][1], kinds)[:len(cell) - 1]
            found.update({("heap", place, first + at): one[0] for at, one in enumerate(inner)})
    return found


def all_kindings(program, state, kinds, sources=None):
    """All kindings by sources in which no other kinds stand than these, nor more of a function's letters."""
    places = []
    for place, cell in state[1]:
        pairs = [None]
        for kind in kinds:
            if kind[0] in LINKS:
                many = program.bodies[cell[0]][0] if kind[0] == "fun" and 0 <= cell[0] < len(program.bodies) else 0
                pairs.extend((kind, more) for more in product(kinds, repeat=many))
        places.append([(place, pair) for pair in pairs])
    frames = [list(product(kinds, repeat=program.bodies[body][0])) for body, _, _ in state[0]]
    for letters in product(*frames):
        for cells in product(*places):
            kinding = (letters, {place: pair for place, pair in cells if pair is not None})
            if naive_is_kinding(program, state, kinding, sources):
                yield kinding


def told_in_all(program, state, kinds, sources=None):
    """The met cells and the told spots, by going through all kindings with these kinds."""
    places, heads = None, None
    for kinding in all_kindings(program, state, kinds, sources):
        found = {(spot, head) for spot, head in spot_heads(program, state, kinding, sources).items() if head in HEADS}
        heads = found if heads is None else heads & found
        places = set(kinding[1]) if places is None else places & set(kinding[1])
    return tuple(sorted(places)), dict(heads)


def naive_sources(program, state):
    cells = [("cell", place) for place in sorted(Guess(program, state).cells)]
    return cells + [("wait", at) for at in range(len(state[0]) - 1)]


def naive_told_by(program, state, lot):
    there = naive_sources(program, state)
    return Guess(program, state, [there[number] for number in lot]).heads()


def naive_tellers(program, state, spot):
    """All lots that tell a spot, without those in which there is a less one."""
    many = len(naive_sources(program, state))
    lots = [tuple(at for at in range(many) if bits >> at & 1) for bits in range(2 ** many)]
    telling = [lot for lot in lots if spot in naive_told_by(program, state, lot)]
    return sorted(lot for lot in telling if not any(set(one) < set(lot) for one in telling))
