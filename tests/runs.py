"""Programs made by chance, and states of their runs."""

import random

from barewords.machine import begun, is_making, next_state
from barewords.programs import Program
from holders import made_holders
from made import made_program
from naive import naive_part
from naive_telling import naive_next


def samples(first, many):
    """Programs with inputs and chances."""
    for seed in range(first, first + many):
        chance = random.Random(seed)
        book, bodies = (made_holders if seed % 5 else made_program)(chance)
        if naive_part(book, bodies) is None:
            inputs = tuple(chance.randint(-2, 3) for _ in bodies[0][1])
            yield Program(book, bodies), inputs, chance


def states(sample, inputs, chance, most=60, share=0.3, places=range(-99, 400)):
    """Some states of a run, with cells at drawn places; the step to each one is looked at."""
    drawn = iter(chance.sample(places, min(len(places), 400)))
    state = begun(sample, inputs)
    for _ in range(most):
        if not state[0] or len(state[0]) > 10:
            break
        place = next(drawn)
        one = naive_next(sample, state, place)
        assert next_state(sample, state, place if is_making(sample, state) else "none") == one
        state = one
        if chance.random() < share * (1 if len(state[0]) > 1 else 0.3):
            yield state
