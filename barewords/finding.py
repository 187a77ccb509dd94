"""What the tables tell of the words of a state: which kinds must be one, and which cells have kinds."""

from barewords.kinds import kinds_within
from barewords.web import Web

LINK_HEADS = ("row", "data", "fun", "box")
TOLD_HEADS = ("num", "row", "data", "fun", "box")


class Finding:
    """A web with knots for the letters of frames, for cells with kinds, and for spots.

    It goes on only where a kind is known to have a head by which a word is the place of a cell;
    so what it comes to is so in every kinding.
    """

    def __init__(self, program, state, asked):
        """The sources of the dict asked are asked, all if it is None."""
        self.program = program
        self.pile = state[0]
        self.heap = dict(state[1])
        self.asked = asked
        self.web = Web()
        self.letters = []
        self.cells = {}
        self.spots = {}
        self.is_right = True

    def asks_of(self, source):
        return self.asked is None or source in self.asked

    def head_at(self, spot):
        """The head of the kind of a spot, or None if it is unknown."""
        kind = self.web.kinds[self.web.top(self.spots[spot])]
        return None if kind is None else kind[0]

    def word_at(self, spot):
        where, number, at = spot
        return self.pile[number][2][at] if where == "pile" else self.heap[number][at]

    def ties(self, knots, others):
        """Tie knots, one by one; it is not right if they cannot be."""
        if len(knots) != len(others) or not all([self.web.tied(*pair) for pair in zip(knots, others)]):
            self.is_right = False

    def fits(self, spot, knot, word):
        """Have the word at a spot fit the kind that a knot stands for."""
        self.spots[spot] = knot
        self.web.asks(knot, word)

    def frame_fits(self, number):
        body, point, words = self.pile[number]
        table = self.program.tables[body][point][1]
        knots = self.web.all_made(table, self.letters[number])
        for at, word in enumerate(words):
            self.fits(("pile", number, at), knots[at], word)

    def wait_fits(self, number):
        """Have the frame above one that waits be as this one tells."""
        body, point, _ = self.pile[number]
        row, table = self.program.tables[body][point]
        above = self.pile[number + 1][0]
        letters = self.letters[number + 1]
        if row[0] == "body":
            if row[1] != above:
                self.is_right = False
            self.ties(self.web.all_made(row[2], self.letters[number]), letters)
        else:
            told = self.web.all_made(kinds_within(table[row[1]]), self.letters[number])
            _, places, answer, _ = self.program.bodies[above]
            self.ties(told, self.web.all_made((*places, answer)[-len(told):], letters))

    def cell_has(self, place, knot, letters):
        """Have a cell be of a kind, and have a function's letters stand for these."""
        self.cells[place] = (knot, letters)
        if self.asks_of(("cell", place)):
            form_fits(self, place)

    def comes_to(self, place, knot):
        """Have the word that is a place fit a kind that is known now."""
        top = self.web.top(knot)
        head = self.web.kinds[top][0]
        if head not in LINK_HEADS:
            return
        if place in self.cells:
            self.ties(self.cells[place][:1], (top,))
        elif place in self.heap:
            many = cell_letters(self.program, head, self.heap[place])
            self.cell_has(place, top, self.web.unknowns(0 if many is None else many))
        else:
            self.is_right = False

    def goes_on(self):
        """Follow all that the frames tell, until nothing more is told."""
        for number in range(len(self.pile)):
            self.frame_fits(number)
        for number in range(len(self.pile) - 1):
            if self.asks_of(("wait", number)):
                self.wait_fits(number)
        while self.web.woken:
            knot, word = self.web.woken.pop()
            self.comes_to(word, knot)


def cell_letters(program, head, cell):
    """How many kinds a cell has beside its own, None if its first word should tell but does not."""
    if head != "fun":
        return 0
    if not cell or not 0 <= cell[0] < len(program.bodies):
        return None
    return program.bodies[cell[0]][0]


def data_knots(finding, cell, top):
    """The knots for the parts of a way, or None if the cell is no such way."""
    book = finding.program.book
    number = finding.web.kinds[top][1]
    within = finding.web.within[top]
    if number >= len(book) or not cell:
        return None
    letters, ways = book[number]
    if letters != len(within) or not 0 <= cell[0] < len(ways):
        return None
    return finding.web.all_made(ways[cell[0]], within)


def fun_knots(finding, cell, top, letters):
    """The knots for what a function took along, or None if the cell is no function."""
    if cell_letters(finding.program, "fun", cell) is None:
        return None
    _, places, answer, _ = finding.program.bodies[cell[0]]
    knots = finding.web.all_made((*places, answer), letters)
    taken = len(cell) - 1
    finding.ties(knots[taken:], finding.web.within[top])
    return knots[:taken]


def form_fits(finding, place):
    """Have the words of a cell fit what its kind tells of them."""
    cell = finding.heap[place]
    knot, letters = finding.cells[place]
    top = finding.web.top(knot)
    head = finding.web.kinds[top][0]
    first = 0
    knots = finding.web.within[top]
    if head == "data":
        first = 1
        knots = data_knots(finding, cell, top)
    elif head == "fun":
        first = 1
        knots = fun_knots(finding, cell, top, letters)
    if knots is None or len(cell) - first != len(knots):
        finding.is_right = False
        return
    for at, inner in enumerate(knots):
        finding.fits(("heap", place, first + at), inner, cell[first + at])


def found(program, state, asked):
    """What is told of a state by its frames and the sources asked, all if asked is None."""
    finding = Finding(program, state, asked)
    for body, _, _ in finding.pile:
        finding.letters.append(finding.web.unknowns(program.bodies[body][0]))
    finding.goes_on()
    return finding


def told_of(finding):
    """The dict from the spots that are told to their heads."""
    heads = {spot: finding.head_at(spot) for spot in finding.spots}
    return {spot: head for spot, head in heads.items() if head in TOLD_HEADS}
