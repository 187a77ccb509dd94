"""The machine: states of bare words, which tell no number from the place of a cell."""

from barewords.errors import BadPlacer, IsOver, NoInputs, NoPlace
from barewords.plain import check_most, picked
from barewords.programs import are_inputs
from barewords.things import is_integer


def comes_between(places, place):
    """Put a place into an ascending list of others."""
    low = 0
    high = len(places)
    while low < high:
        middle = (low + high) // 2
        if places[middle] < place:
            low = middle + 1
        else:
            high = middle
    places.insert(low, place)


class Machine:
    """A state that is led on where it stands: tuples of all cells for each step would take too long."""

    def __init__(self, program, state):
        self.program = program
        self.done = 0
        self.becomes(state)

    def becomes(self, state):
        """Have another state stand in the place of this one."""
        pile, heap, said = state
        self.pile = list(pile)
        self.cells = dict(heap)
        # Those of the cells, kept ascending, as a placer is handed them again and again.
        self.places = [place for place, _ in heap]
        self.said = list(said)

    def is_free(self, place):
        """Whether a new cell may come to this place."""
        return is_integer(place) and place not in self.cells

    def gets(self, place, cell):
        """Put a new cell at a place that is free."""
        comes_between(self.places, place)
        self.cells[place] = cell

    def hands(self, body, words):
        self.pile.append((body, (0,), words))

    def goes_on(self, word):
        body, point, words = self.pile[-1]
        self.pile[-1] = (body, (*point[:-1], point[-1] + 1), (*words, word))

    def enters(self, block, parts):
        body, point, words = self.pile[-1]
        self.pile[-1] = (body, (*point, block, 0), (*words, *parts))

    def answers(self, word):
        self.pile.pop()
        if self.pile:
            self.goes_on(word)
        else:
            self.said.append(word)


def state_of(machine):
    heap = tuple([(place, machine.cells[place]) for place in machine.places])
    return (tuple(machine.pile), heap, tuple(machine.said))


def row_cell(words, step):
    return picked(words, step[1])


def way_cell(words, step):
    return (step[3], *picked(words, step[4]))


def take_cell(words, step):
    return (step[1], *picked(words, step[3]))


def box_cell(words, step):
    return (words[step[1]],)


STEP_CELLS = {
    "row": row_cell,
    "way": way_cell,
    "take": take_cell,
    "box": box_cell,
}


def num_word(machine, words, step):
    return step[1]


def nil_word(machine, words, step):
    return 0


def sum_word(machine, words, step):
    return words[step[1]] + words[step[2]]


def less_word(machine, words, step):
    return 1 if words[step[1]] < words[step[2]] else 0


def part_word(machine, words, step):
    return machine.cells[words[step[1]]][step[2]]


def open_word(machine, words, step):
    return machine.cells[words[step[1]]][0]


def put_word(machine, words, step):
    machine.cells[words[step[1]]] = (words[step[2]],)
    return 0


def print_word(machine, words, step):
    machine.said.append(words[step[1]])
    return 0


STEP_WORDS = {
    "num": num_word,
    "nil": nil_word,
    "sum": sum_word,
    "less": less_word,
    "part": part_word,
    "open": open_word,
    "put": put_word,
    "print": print_word,
}


def row_ahead(program, pile):
    """The step or the end of the last frame that is done next."""
    body, point, _ = pile[-1]
    return program.tables[body][point][0]


def makes_cell(program, pile):
    return len(pile) > 0 and row_ahead(program, pile)[0] in STEP_CELLS


def do_end(machine, words, end):
    word = words[end[1]]
    if end[0] == "back":
        machine.answers(word)
    elif end[0] == "if":
        machine.enters(0 if word != 0 else 1, ())
    else:
        way, *parts = machine.cells[word]
        machine.enters(way, parts)


def do_next(machine, place):
    """Do the next step or end; a new cell comes to this place, which is free then."""
    machine.done += 1
    words = machine.pile[-1][2]
    row = row_ahead(machine.program, machine.pile)
    if row[0] in STEP_CELLS:
        cell_of = STEP_CELLS[row[0]]
        machine.gets(place, cell_of(words, row))
        machine.goes_on(place)
    elif row[0] in STEP_WORDS:
        word_of = STEP_WORDS[row[0]]
        machine.goes_on(word_of(machine, words, row))
    elif row[0] == "body":
        machine.hands(row[1], picked(words, row[3]))
    elif row[0] == "call":
        body, *taken = machine.cells[words[row[1]]]
        machine.hands(body, (*taken, *picked(words, row[2])))
    else:
        do_end(machine, words, row)


def begun(program, inputs):
    """The state in which body 0 is handed the inputs."""
    if not are_inputs(program, inputs):
        raise NoInputs()
    return (((0, (0,), inputs),), (), ())


def is_making(program, state):
    """Whether the next thing done makes a cell."""
    return makes_cell(program, state[0])


def next_state(program, state, place):
    """The state behind the next step or end; a new cell comes to this place."""
    if not state[0]:
        raise IsOver()
    machine = Machine(program, state)
    if makes_cell(program, machine.pile) and not machine.is_free(place):
        raise NoPlace()
    do_next(machine, place)
    return state_of(machine)


def told_place(placer, places, taken, number):
    """The place that a placer tells; places are those that are taken, ascending, taken has them as keys."""
    place = placer(tuple(places))
    if not is_integer(place) or place in taken:
        raise BadPlacer(number)
    return place


def comes_to_stop(machine, last):
    """Lead a machine on until a cell is made next, or so many are done in all; whether a cell is made next."""
    while machine.pile and machine.done < last:
        if makes_cell(machine.program, machine.pile):
            return True
        do_next(machine, None)
    return False


def ran(program, state, placer, most):
    """The state behind so many steps and ends at most, new cells coming where the placer tells."""
    check_most(most)
    machine = Machine(program, state)
    while comes_to_stop(machine, most):
        do_next(machine, told_place(placer, machine.places, machine.cells, machine.done))
    return state_of(machine)
