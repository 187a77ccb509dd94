"""Plain runs: what comes of a program, told without a machine."""

from barewords.errors import NoInputs, NoNumber
from barewords.programs import are_inputs
from barewords.things import is_between

MOST_DONE = 100000


class Frame:
    """A body, or a block within, as far as it is done."""

    def __init__(self, block, worths):
        self.block = block
        self.at = 0
        self.worths = worths

    def goes_on(self, worth):
        self.worths.append(worth)
        self.at += 1

    def enters(self, block):
        self.block = block
        self.at = 0


class Run:
    """What there is while a program runs: frames, boxes, and what was said."""

    def __init__(self, bodies, inputs):
        self.bodies = bodies
        self.frames = []
        self.boxes = []
        self.said = []
        self.hands(0, inputs)

    def hands(self, body, worths):
        self.frames.append(Frame(self.bodies[body][3], list(worths)))

    def answers(self, worth):
        self.frames.pop()
        if self.frames:
            self.frames[-1].goes_on(worth)
        else:
            self.said.append(worth)


def picked(worths, places):
    return tuple([worths[place] for place in places])


def num_worth(run, worths, step):
    return step[1]


def nil_worth(run, worths, step):
    return None


def sum_worth(run, worths, step):
    return worths[step[1]] + worths[step[2]]


def less_worth(run, worths, step):
    return 1 if worths[step[1]] < worths[step[2]] else 0


def row_worth(run, worths, step):
    return picked(worths, step[1])


def part_worth(run, worths, step):
    return worths[step[1]][step[2]]


def way_worth(run, worths, step):
    return (step[3], picked(worths, step[4]))


def take_worth(run, worths, step):
    return (step[1], picked(worths, step[3]))


def box_worth(run, worths, step):
    run.boxes.append(worths[step[1]])
    return len(run.boxes) - 1


def open_worth(run, worths, step):
    return run.boxes[worths[step[1]]]


def put_worth(run, worths, step):
    run.boxes[worths[step[1]]] = worths[step[2]]
    return None


def print_worth(run, worths, step):
    run.said.append(worths[step[1]])
    return None


STEP_WORTHS = {
    "num": num_worth,
    "nil": nil_worth,
    "sum": sum_worth,
    "less": less_worth,
    "row": row_worth,
    "part": part_worth,
    "way": way_worth,
    "take": take_worth,
    "box": box_worth,
    "open": open_worth,
    "put": put_worth,
    "print": print_worth,
}


def do_step(run, frame, step):
    if step[0] == "body":
        run.hands(step[1], picked(frame.worths, step[3]))
    elif step[0] == "call":
        body, taken = frame.worths[step[1]]
        run.hands(body, taken + picked(frame.worths, step[2]))
    else:
        worth_of = STEP_WORTHS[step[0]]
        frame.goes_on(worth_of(run, frame.worths, step))


def do_end(run, frame, end):
    worth = frame.worths[end[1]]
    if end[0] == "back":
        run.answers(worth)
    elif end[0] == "if":
        frame.enters(end[2] if worth != 0 else end[3])
    else:
        way, parts = worth
        frame.worths.extend(parts)
        frame.enters(end[2][way])


def do_next(run):
    frame = run.frames[-1]
    steps, end = frame.block
    if frame.at < len(steps):
        do_step(run, frame, steps[frame.at])
    else:
        do_end(run, frame, end)


def check_most(most):
    """Raise NoNumber unless this is how many steps and ends may be done at most."""
    if not is_between(most, 0, MOST_DONE):
        raise NoNumber()


def plain(program, inputs, most):
    """The numbers said by so many steps and ends at most, and whether the run is over then."""
    if not are_inputs(program, inputs):
        raise NoInputs()
    check_most(most)
    run = Run(program.bodies, inputs)
    done = 0
    while run.frames and done < most:
        do_next(run)
        done += 1
    return (tuple(run.said), not run.frames)
