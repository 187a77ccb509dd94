"""States and placers that several tests use."""

from barewords.machine import begun, is_making, next_state
from barewords.programs import Program
from samples import A, B, EITHER, LISTS, NUM, box, data, fun, main


def upwards(places):
    """A placer: each new cell comes behind all others, from 100 on."""
    return places[-1] + 1 if places else 100


def downwards(places):
    return places[0] - 1 if places else -1


def like_numbers(places):
    """A placer: the least place from 0 on that is free, so that places look like the numbers at hand."""
    place = 0
    while place in places:
        place += 1
    return place


def far_apart(places):
    """A placer: places of up to 40 digits, above and below 0 by turns."""
    place = (len(places) + 1) * 10 ** 35
    return place if len(places) % 2 else -place


PLACERS = (upwards, downwards, like_numbers, far_apart)


def behind(program, inputs, steps, placer=upwards):
    """The state behind so many steps and ends."""
    state = begun(program, inputs)
    for _ in range(steps):
        place = placer(tuple(place for place, _ in state[1])) if is_making(program, state) else None
        state = next_state(program, state, place)
    return state


# Takes a thing of any kind along, and answers the sum of two numbers.
HOLD = (1, (A, NUM, NUM), NUM, ((("box", 0), ("sum", 1, 2)), ("back", 4)))
NUMBERS = fun([NUM], NUM)


def nested():
    """Body 2 returns a function that took along a function, which no table tells of then."""
    return Program((), (
        main((("body", 2, (), (0,)), ("call", 1, (0,))), ("back", 2)),
        HOLD,
        (0, (NUM,), NUMBERS, ((
            ("take", 1, (NUM,), (0, 0)), ("take", 1, (NUMBERS,), (1, 0))), ("back", 2)))))


def using(many=1):
    """Body 0 calls a function that took along a row and functions, so many, which look into it, if not handed 0."""
    pair = ("row", (NUM, NUM))
    taker = fun([pair], NUM)
    takes = tuple(("take", 2, (), ()) for _ in range(many))
    leaves = tuple(("take", 3, (pair,), (0,)) for _ in range(many))
    last = ("take", 1, (pair,), tuple(range(1, many + 2)))
    return Program((), (
        main((("body", 4, (), (0,)), ("call", 1, (0,))), ("back", 2)),
        (1, (A,) + (fun([A], NUM),) * many + (NUM,), NUM, ((("call", 1, (0,)),), ("back", many + 2))),
        (0, (pair,), NUM, ((("part", 0, 1),), ("back", 1))),
        (1, (NUM, A), NUM, ((), ("back", 0))),
        (0, (NUM,), NUMBERS, ((("row", (0, 0)),), ("if", 0, (
            takes + (last,), ("back", many + 2)), (leaves + (last,), ("back", many + 2)))))))


def lists():
    """Body 0 calls a function that took a list along, of things whose kind no table tells of then."""
    thing = data(1, NUM, box(NUM))
    return Program((LISTS, EITHER), (
        main((("body", 2, (), (0,)), ("call", 1, (0,))), ("back", 2)),
        (1, (data(0, A), NUM), NUM, ((), ("look", 0, (((), ("back", 1)), (
            (("body", 1, (A,), (3, 1)), ("sum", 1, 4)), ("back", 5)))))),
        (0, (NUM,), NUMBERS, ((
            ("box", 0), ("way", 1, (NUM, box(NUM)), 0, (0,)), ("way", 1, (NUM, box(NUM)), 1, (1,)),
            ("way", 0, (thing,), 0, ()), ("way", 0, (thing,), 1, (2, 4)), ("way", 0, (thing,), 1, (3, 5)),
            ("take", 1, (thing,), (6,))), ("back", 7)))))


def deeper(many):
    """Body 1 has a letter that no place shows, and goes on with as many letters of it in a row."""
    kind = box(A) if many == 1 else ("row", (A,) * many)
    return Program((), (
        main((("body", 1, (NUM,), ()),), ("back", 1)),
        (1, (), NUM, ((("body", 1, (kind,), ()),), ("back", 0)))))


def ever(*kinds):
    """Body 1 has letters for these kinds that no place shows, and goes on with the same ones."""
    letters = tuple(("letter", at) for at in range(len(kinds)))
    return Program((), (
        main((("body", 1, kinds, ()),), ("back", 1)),
        (len(kinds), (), NUM, ((("body", 1, letters, ()),), ("back", 0)))))
