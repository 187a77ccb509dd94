"""Programs exchanged at a stop: whether a program can go on from a state that another one came to."""

from barewords.errors import NoOver
from barewords.finding import found
from barewords.telling import told
from barewords.things import are_integers, is_between


def frame_stands(program, pile, number):
    """Whether a frame is at a point of a body of this program, as it must be there."""
    body, point, words = pile[number]
    if not is_between(body, 0, len(program.bodies) - 1) or number == 0 and body != 0:
        return False
    if not are_integers(point) or point not in program.tables[body]:
        return False
    row, table = program.tables[body][point]
    return len(words) == len(table) and (number == len(pile) - 1 or row[0] in ("body", "call"))


def fault_of(other, state):
    """None if a program takes a state over, else the first frame that does not stand, or the kinds."""
    pile = state[0]
    for number in range(len(pile)):
        if not frame_stands(other, pile, number):
            return ("frame", number)
    finding = found(other, state, None)
    return None if finding.is_right and not finding.web.has_loop() else ("kinds",)


def stands(other, state):
    """Whether each frame of a state is at a point of a program."""
    pile = state[0]
    return all([frame_stands(other, pile, number) for number in range(len(pile))])


def takes_over(other, state):
    """Whether a state stands for a program, and there is a kinding by it."""
    return fault_of(other, state) is None


def retold(program, other, state):
    """The spots told by both programs with one head, by both with unlike heads, and by just one of them."""
    if not takes_over(program, state) or not takes_over(other, state):
        raise NoOver()
    ones = told(program, state)
    others = told(other, state)
    both = sorted([spot for spot in ones if spot in others])
    just_one = [spot for spot in ones if spot not in others] + [spot for spot in others if spot not in ones]
    return (
        tuple([spot for spot in both if ones[spot] == others[spot]]),
        tuple([spot for spot in both if ones[spot] != others[spot]]),
        tuple(sorted(just_one)))
