"""Kinds, programs and odd things that several tests use."""

from barewords.errors import BadProgram, NoKind
from barewords.programs import Program

NUM = ("num",)
NIL = ("nil",)


def row(*kinds):
    return ("row", kinds)


def data(number, *kinds):
    return ("data", number, kinds)


def fun(kinds, kind):
    return ("fun", tuple(kinds), kind)


def box(kind):
    return ("box", kind)


def letter(number):
    return ("letter", number)


def boxed(kind, deep):
    """The kind with so many boxes around it."""
    for _ in range(deep):
        kind = box(kind)
    return kind


def wide(many):
    """A closed kind with so many kinds in it, itself counted."""
    if many == 1:
        return NUM
    if many <= 5:
        return row(*[NUM] * (many - 1))
    rest = many - 1
    parts = []
    for left in (4, 3, 2, 1):
        share = rest // left
        parts.append(wide(share))
        rest -= share
    return row(*parts)


A = letter(0)
B = letter(1)

# Lists of a letter: none, or a first one and a list.
LISTS = (1, ((), (A, data(0, A))))
# One of two letters.
EITHER = (2, ((A,), (B,)))
# A choice without letters.
TRUTH = (0, ((), ()))


def part_of(book, bodies):
    """The part that BadProgram names; None if the program is right."""
    try:
        Program(book, bodies)
    except BadProgram as error:
        return error.part
    return None


def main(steps, end, places=(NUM,)):
    """Body 0 of these steps and this end."""
    return (0, places, NUM, (steps, end))


def program(steps, end, more=(), book=(), places=(NUM,)):
    return Program(book, (main(steps, end, places),) + tuple(more))


def hold():
    return Program((), ((0, (("num",),), ("num",), (
        (("take", 1, (("num",),), (0, 0)), ("call", 1, (0,))), ("back", 2))), (
        1, (("letter", 0), ("num",), ("num",)), ("num",), (
            (("box", 0), ("sum", 1, 2)), ("back", 4)))))


IDENTITY = (1, (A,), A, ((), ("back", 0)))

# Sums the numbers of a list.
TOTAL = (0, (data(0, NUM),), NUM, (
    (), ("look", 0, (
        ((("num", 0),), ("back", 1)),
        ((("body", 1, (), (2,)), ("sum", 1, 3)), ("back", 4))))))

# The list of the numbers from its input down to 1.
DOWN = (0, (NUM,), data(0, NUM), (
    (), ("if", 0, (
        (("num", -1), ("sum", 0, 1), ("body", 2, (), (2,)), ("way", 0, (NUM,), 1, (0, 3))), ("back", 4)), (
        (("way", 0, (NUM,), 0, ()),), ("back", 1)))))

# Prints its input, and answers the sum of the numbers from it down to 1.
COUNTING = ((LISTS,), (
    (0, (NUM,), NUM, (
        (("print", 0), ("body", 2, (), (0,)), ("body", 1, (), (2,))), ("back", 3))), TOTAL, DOWN))


def counting():
    return Program(*COUNTING)


def a_function():
    return None


def a_generator():
    yield 1


def odd_things():
    """Objects of all sorts, none of which is a kind, a program's part or a number from 0 on."""
    deep_list = []
    deep_tuple = ()
    deep_dict = {}
    for _ in range(59):
        deep_list = [deep_list]
        deep_tuple = (deep_tuple,)
        deep_dict = {0: deep_dict}
    return [
        None, True, False, -1, -10 ** 39, "", "num", "()", b"", b"num", bytearray(b"num"), memoryview(b"num"),
        [], [("num",)], ["num"], {}, {"num": 1}, {0: NUM}, (), ((),), (None,), (True,), (0,), (b"num",), ([],),
        ("row",), ("row", NUM), ("num", "num"), ("nil", ()), (["num"],), ({},), ((("num",),),), ("back",),
        range(0), range(4), slice(0, 1), Ellipsis, NotImplemented, int, tuple, object, object(), type,
        a_function, a_generator, a_generator(), len, iter(()), zip(), enumerate(()), reversed(()),
        map(str, ()), filter(None, ()), property(), staticmethod(len), classmethod(len), super(int, 1),
        ValueError(), NoKind(), NoKind, BadProgram((1,)), Program, hold(), hold, (hold(),), deep_list, deep_tuple,
        deep_dict, [1] * 19000, (None,) * 19000, "x" * 20000, {}.keys(), {1: 2}.items(), {}.values(), {1: ()},
    ]
