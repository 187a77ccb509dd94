"""What steps and ends ask of places, and at which point a wrong one is named."""

import unittest

from barewords.programs import Program, kinds_at, points
from samples import (
    A, B, EITHER, IDENTITY, LISTS, NIL, NUM, TRUTH, box, boxed, data, fun, letter, part_of, row, wide)

# Places of every body here: a number, nothing, a row, a list, a function, a box, a letter's.
PLACES = (row(NUM, NIL, A), data(0, A), fun([A, NUM], NIL), box(A), A)
BOOK = (LISTS, EITHER, TRUTH)
FIRST = (0, (NUM,), NUM, ((), ("back", 0)))
PAIR = (2, (A, B, A), row(B, A), ((("row", (1, 0)),), ("back", 3)))
MANY = (1, (A, NUM, A, NUM, A), A, ((), ("back", 0)))
NONE = (0, (), NUM, ((("num", 3),), ("back", 0)))
# The table behind the two steps that each body here begins with.
TABLE = PLACES + (NUM, NIL)
ROW, LIST, FUN, BOX, ANY, NUMBER, NOTHING, NEXT = range(8)
OWN, IDENTITY_BODY, PAIR_BODY, MANY_BODY, NONE_BODY = 1, 2, 3, 4, 5


def bodies_with(steps, end=("back", NUMBER), answer=NUM):
    body = (1, PLACES, answer, ((("num", 5), ("nil",)) + tuple(steps), end))
    return (FIRST, body, IDENTITY, PAIR, MANY, NONE)


def kind_made(step):
    """The kind of the place that a step makes, or None if it is named as wrong."""
    bodies = bodies_with([step])
    part = part_of(BOOK, bodies)
    if part is not None:
        assert part == ("step", 1, (2,)), (step, part)
        return None
    table = kinds_at(Program(BOOK, bodies), 1, (3,))
    assert table[:-1] == TABLE
    return table[-1]


class StepsTest(unittest.TestCase):
    def check(self, step, kind):
        self.assertEqual(kind_made(step), kind, step)

    def check_wrong(self, *steps):
        for step in steps:
            self.assertIsNone(kind_made(step), step)

    def test_num_and_nil(self):
        self.check(("num", -7), NUM)
        self.check(("nil",), NIL)

    def test_sum_and_less(self):
        for head in ("sum", "less"):
            self.check((head, NUMBER, NUMBER), NUM)
            for place in (ROW, LIST, FUN, BOX, ANY, NOTHING, NEXT, NEXT + 1, 10 ** 39):
                self.check_wrong((head, NUMBER, place), (head, place, NUMBER), (head, place, place))

    def test_row(self):
        self.check(("row", (NUMBER,)), row(NUM))
        self.check(("row", (ANY, NOTHING, ANY, BOX)), row(A, NIL, A, box(A)))
        self.check(("row", (ROW, LIST, FUN)), row(*PLACES[:3]))
        self.check_wrong(("row", (NEXT,)), ("row", (NUMBER, NEXT)), ("row", (10 ** 39, NUMBER, NUMBER, NUMBER)))

    def test_part(self):
        self.check(("part", ROW, 0), NUM)
        self.check(("part", ROW, 1), NIL)
        self.check(("part", ROW, 2), A)
        self.check_wrong(("part", ROW, 3), ("part", ROW, 10 ** 39))
        self.check_wrong(*[("part", place, 0) for place in (LIST, FUN, BOX, ANY, NUMBER, NOTHING, NEXT)])

    def test_way(self):
        self.check(("way", 0, (NUM,), 0, ()), data(0, NUM))
        self.check(("way", 0, (A,), 1, (ANY, LIST)), data(0, A))
        self.check(("way", 1, (NUM, A), 0, (NUMBER,)), data(1, NUM, A))
        self.check(("way", 1, (NUM, A), 1, (ANY,)), data(1, NUM, A))
        self.check(("way", 2, (), 1, ()), data(2))
        self.check_wrong(
            ("way", 0, (NUM,), 0, (NUMBER,)), ("way", 0, (A,), 1, (ANY,)), ("way", 0, (A,), 1, (LIST, ANY)),
            ("way", 0, (NUM,), 1, (NUMBER, LIST)), ("way", 0, (A,), 1, (ANY, LIST, LIST)), ("way", 0, (A,), 1, ()),
            ("way", 1, (NUM, A), 0, (ANY,)), ("way", 1, (NUM, A), 1, (NUMBER,)), ("way", 1, (NUM, A), 1, (NEXT,)),
            ("way", 2, (), 0, (NOTHING,)))

    def test_take(self):
        self.check(("take", IDENTITY_BODY, (NUM,), ()), fun([NUM], NUM))
        self.check(("take", IDENTITY_BODY, (A,), ()), fun([A], A))
        self.check(("take", PAIR_BODY, (NUM, A), ()), fun([NUM, A, NUM], row(A, NUM)))
        self.check(("take", PAIR_BODY, (NUM, A), (NUMBER,)), fun([A, NUM], row(A, NUM)))
        self.check(("take", PAIR_BODY, (NUM, A), (NUMBER, ANY)), fun([NUM], row(A, NUM)))
        self.check(("take", MANY_BODY, (A,), (ANY, NUMBER)), fun([A, NUM, A], A))
        self.check(("take", MANY_BODY, (A,), (ANY, NUMBER, ANY, NUMBER)), fun([A], A))
        self.check(("take", OWN, (A,), (ROW, LIST)), fun([fun([A, NUM], NIL), box(A), A], NUM))
        self.check(("take", 0, (), ()), fun([NUM], NUM))

    def test_wrong_takes(self):
        self.check_wrong(
            ("take", IDENTITY_BODY, (NUM,), (NUMBER,)), ("take", IDENTITY_BODY, (NUM,), (NUMBER, NUMBER)),
            ("take", NONE_BODY, (), ()), ("take", NONE_BODY, (), (NUMBER,)),
            ("take", PAIR_BODY, (NUM, A), (NUMBER, ANY, NUMBER)), ("take", PAIR_BODY, (NUM, A), (ANY,)),
            ("take", PAIR_BODY, (NUM, A), (NUMBER, NUMBER)), ("take", PAIR_BODY, (NUM, A), (NEXT,)),
            ("take", MANY_BODY, (A,), ()), ("take", MANY_BODY, (A,), (ANY,)),
            ("take", MANY_BODY, (A,), (ANY, NUMBER, ANY, NUMBER, ANY)),
            ("take", MANY_BODY, (A,), (ANY, NUMBER, ANY, NUMBER, ANY, NUMBER)), ("take", OWN, (NUM,), (ROW, LIST)))

    def test_boxes(self):
        for place, kind in enumerate(TABLE):
            self.check(("box", place), box(kind))
        self.check_wrong(("box", NEXT), ("box", 10 ** 39))
        self.check(("open", BOX), A)
        self.check_wrong(*[("open", place) for place in (ROW, LIST, FUN, ANY, NUMBER, NOTHING, NEXT)])
        self.check(("put", BOX, ANY), NIL)
        self.check_wrong(*[("put", BOX, place) for place in (ROW, LIST, FUN, BOX, NUMBER, NOTHING, NEXT)])
        self.check_wrong(*[("put", place, ANY) for place in (ROW, LIST, FUN, ANY, NUMBER, NOTHING, NEXT)])

    def test_print(self):
        self.check(("print", NUMBER), NIL)
        self.check_wrong(*[("print", place) for place in (ROW, LIST, FUN, BOX, ANY, NOTHING, NEXT)])

    def test_body(self):
        self.check(("body", NONE_BODY, (), ()), NUM)
        self.check(("body", IDENTITY_BODY, (A,), (ANY,)), A)
        self.check(("body", IDENTITY_BODY, (box(A),), (BOX,)), box(A))
        self.check(("body", PAIR_BODY, (NUM, NIL), (NUMBER, NOTHING, NUMBER)), row(NIL, NUM))
        self.check(("body", MANY_BODY, (NUM,), (NUMBER,) * 5), NUM)
        self.check(("body", OWN, (A,), (ROW, LIST, FUN, BOX, ANY)), NUM)
        self.check_wrong(
            ("body", NONE_BODY, (), (NUMBER,)), ("body", IDENTITY_BODY, (A,), ()),
            ("body", IDENTITY_BODY, (A,), (NUMBER,)), ("body", IDENTITY_BODY, (A,), (ANY, ANY)),
            ("body", PAIR_BODY, (NUM, NIL), (NUMBER, NOTHING, NOTHING)), ("body", MANY_BODY, (NUM,), (NUMBER,) * 4),
            ("body", MANY_BODY, (NUM,), (NUMBER,) * 6), ("body", IDENTITY_BODY, (NUM,), (NEXT,)),
            ("body", OWN, (NUM,), (ROW, LIST, FUN, BOX, ANY)))

    def test_call(self):
        self.check(("call", FUN, (ANY, NUMBER)), NIL)
        self.check_wrong(
            ("call", FUN, (NUMBER, ANY)), ("call", FUN, (ANY,)), ("call", FUN, ()), ("call", FUN, (ANY, NUMBER, NUMBER)),
            ("call", FUN, (ANY, NEXT)), ("call", FUN, (NEXT, NUMBER)))
        self.check_wrong(*[("call", place, (ANY, NUMBER)) for place in (ROW, LIST, BOX, ANY, NUMBER, NOTHING, NEXT)])


def end_part(end, answer=NUM):
    return part_of(BOOK, bodies_with([], end, answer))


class EndsTest(unittest.TestCase):
    wrong = ("step", 1, (2,))

    def test_back(self):
        for place, kind in enumerate(TABLE):
            for other in TABLE:
                self.assertEqual(end_part(("back", place), other), None if kind == other else self.wrong)
        self.assertEqual(end_part(("back", NEXT)), self.wrong)
        self.assertEqual(end_part(("back", 10 ** 39)), self.wrong)

    def test_if(self):
        for place in range(NEXT + 1):
            end = ("if", place, ((), ("back", NUMBER)), ((), ("back", NUMBER)))
            self.assertEqual(end_part(end), None if place == NUMBER else self.wrong)

    def test_look(self):
        back = ((), ("back", NUMBER))
        for place in range(NEXT + 1):
            self.assertEqual(end_part(("look", place, (back, back))), None if place == LIST else self.wrong)
        for many in range(5):
            self.assertEqual(end_part(("look", LIST, (back,) * many)), None if many == 2 else self.wrong)

    def test_blocks_within(self):
        back = ((), ("back", NUMBER))
        wrong = ((("nil",), ("sum", NUMBER, NOTHING)), ("back", NUMBER))
        self.assertEqual(end_part(("if", NUMBER, wrong, wrong)), ("step", 1, (2, 0, 1)))
        self.assertEqual(end_part(("if", NUMBER, back, wrong)), ("step", 1, (2, 1, 1)))
        self.assertEqual(end_part(("look", LIST, (back, wrong))), ("step", 1, (2, 1, 1)))
        self.assertEqual(end_part(("if", NUMBER, back, ((), ("back", NOTHING)))), ("step", 1, (2, 1, 0)))
        deep = ((("nil",),), ("if", NUMBER, ((), ("if", NUMBER, back, wrong)), ((), ("back", NEXT))))
        self.assertEqual(end_part(("look", LIST, (back, deep))), ("step", 1, (2, 1, 1, 0, 0, 1, 1)))
        self.assertEqual(end_part(("if", NOTHING, wrong, wrong)), ("step", 1, (2,)))

    def test_parts_come_ahead_of_steps(self):
        back = ((), ("back", NUMBER))
        block = ((("put", BOX, NEXT), ("way", 0, (A,), 1, (NEXT, NEXT + 1)), ("row", (NEXT + 2, NEXT + 3))),
                 ("back", NUMBER))
        self.assertIsNone(end_part(("look", LIST, (back, block))))
        self.assertEqual(end_part(("look", LIST, (block, back))), ("step", 1, (2, 0, 0)))

    def test_places_of_other_blocks_are_not_there(self):
        more = ((("num", 1), ("num", 2)), ("back", NEXT + 1))
        less = ((("num", 1),), ("back", NEXT + 1))
        self.assertIsNone(end_part(("if", NUMBER, more, more)))
        self.assertEqual(end_part(("if", NUMBER, more, less)), ("step", 1, (2, 1, 1)))


class OrderTest(unittest.TestCase):
    def test_the_first_step_is_named(self):
        steps = [("nil",), ("open", NUMBER), ("sum", 99, 99)]
        self.assertEqual(part_of(BOOK, bodies_with(steps, ("back", 99))), ("step", 1, (3,)))

    def test_a_place_of_its_own_is_not_there(self):
        self.assertEqual(part_of(BOOK, bodies_with([("box", NEXT)])), ("step", 1, (2,)))
        self.assertIsNone(part_of(BOOK, bodies_with([("box", NUMBER), ("box", NEXT)])))

    def test_body_by_body(self):
        wrong = (0, (NUM,), NUM, ((), ("back", 1)))
        deep = (0, (NUM,), NUM, ((), ("if", 0, ((), ("back", 0)), ((("open", 0),), ("back", 0)))))
        self.assertEqual(part_of((), (deep, wrong)), ("step", 0, (0, 1, 0)))
        self.assertEqual(part_of((), (FIRST, wrong, deep)), ("step", 1, (0,)))
        self.assertEqual(part_of((), (FIRST, FIRST, deep)), ("step", 2, (0, 1, 0)))


def great_steps(boxes):
    """Steps by which a place comes, last of all, whose kind has 385 kinds and as many as these."""
    steps = [("row", (0, 0, 0, 0))]
    for place in range(1, 4):
        steps.append(("row", (place,) * 4))
    steps.append(("row", (2, 2)))
    for place in range(5, 5 + boxes):
        steps.append(("box", place))
    return steps + [("row", (4, 5 + boxes))]


def looking(boxed_letters, within):
    """A program that looks at a way with a part of 16 letters, so many of them in boxes."""
    letters = [box(A)] * boxed_letters + [A] * (16 - boxed_letters)
    part = row(*[row(*letters[at:at + 4]) for at in range(0, 16, 4)])
    steps = (("way", 0, (wide(within),), 0, ()), ("nil",))
    end = ("look", 1, (((), ("back", 0)), ((), ("back", 0))))
    return part_of(((1, ((), (NUM, part))),), ((0, (NUM,), NUM, (steps, end)),))


class GreatKindsTest(unittest.TestCase):
    def test_a_row(self):
        for boxes, part in ((15, None), (16, ("step", 0, (21,)))):
            steps = tuple(great_steps(boxes))
            self.assertEqual(part_of((), ((0, (NUM,), NUM, (steps, ("back", 0))),)), part)

    def test_one_more_around_it(self):
        steps = tuple(great_steps(15)) + (("box", 21),)
        self.assertEqual(part_of((), ((0, (NUM,), NUM, (steps, ("back", 0))),)), ("step", 0, (21,)))
        steps = tuple(great_steps(15)) + (("part", 21, 0), ("put", 6, 5), ("nil",))
        self.assertIsNone(part_of((), ((0, (NUM,), NUM, (steps, ("back", 0))),)))

    def test_parts_of_a_way(self):
        self.assertIsNone(looking(11, 24))
        self.assertEqual(looking(12, 24), ("step", 0, (2,)))
        self.assertIsNone(looking(0, 24))
        self.assertEqual(looking(0, 25), ("step", 0, (2,)))

    def test_an_answer(self):
        answer = row(*[row(A, A, A, A)] * 4)
        for within, part in ((24, None), (25, ("step", 0, (0,)))):
            body = (1, (), answer, ((("body", 1, (A,), ()),), ("back", 0)))
            steps = (("body", 1, (wide(within),), ()),)
            self.assertEqual(part_of((), ((0, (NUM,), NUM, (steps, ("back", 0))), body)), part)

    def test_a_function(self):
        for within, part in ((30, None), (31, ("step", 0, (0,)))):
            body = (1, (row(*[A] * 4), row(*[A] * 4), row(*[A] * 4)), A, ((("part", 0, 0),), ("back", 3)))
            steps = (("take", 1, (wide(within),), ()),)
            self.assertEqual(part_of((), ((0, (NUM,), NUM, (steps, ("back", 0))), body)), part)

    def test_places_much_deeper_than_kinds_that_are_written(self):
        steps = tuple([("box", place) for place in range(60)])
        program = Program((), ((0, (NUM,), NUM, (steps, ("back", 0))),))
        self.assertEqual(kinds_at(program, 0, (60,))[-1], boxed(NUM, 60))
        self.assertEqual(len(points(program, 0)), 61)


if __name__ == "__main__":
    unittest.main()
