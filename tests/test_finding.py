"""States that no run comes to: they are found not to be right."""

import unittest

from barewords.finding import found
from barewords.programs import Program
from samples import A, IDENTITY, LISTS, NUM, TRUTH, box, data, fun, hold, main, program, row
from states import behind, ever, nested, using


def with_cell(state, place, cell):
    """The state with another cell at a place."""
    pile, heap, said = state
    return (pile, tuple((one, cell if one == place else old) for one, old in heap), said)


class FindingTest(unittest.TestCase):
    def right(self, sample, state, asked=None):
        self.assertIs(found(sample, state, asked).is_right, True)

    def wrong(self, sample, state, asked=None):
        self.assertIs(found(sample, state, asked).is_right, False)

    def test_right_states(self):
        for sample, most in ((hold(), 6), (nested(), 9), (using(), 12)):
            for steps in range(most + 1):
                self.right(sample, behind(sample, (5,), steps))
                self.right(sample, behind(sample, (5,), steps), {})

    def test_words_that_are_no_places(self):
        sample = program((("box", 0),), ("back", 0))
        self.right(sample, (((0, (1,), (5, 7)),), ((7, (5,)),), ()))
        for word in (5, 6, 8, -7):
            self.wrong(sample, (((0, (1,), (5, word)),), ((7, (5,)),), ()))
            self.wrong(sample, (((0, (1,), (5, word)),), ((7, (5,)),), ()), {})

    def test_rows_and_boxes_of_another_length(self):
        for step, cell in ((("box", 0), (1,)), (("row", (0,)), (1,)), (("row", (0, 0, 0)), (1, 2, 3))):
            sample = program((step,), ("back", 0))
            self.right(sample, (((0, (1,), (5, 7)),), ((7, cell),), ()))
            for other in ((), cell[1:], cell + (1,)):
                state = (((0, (1,), (5, 7)),), ((7, other),), ())
                self.wrong(sample, state)
                self.wrong(sample, state, {("cell", 7): True})
                self.right(sample, state, {("cell", 8): True})

    def test_ways(self):
        sample = program((("way", 0, (NUM,), 0, ()), ("way", 1, (), 0, ())), ("back", 0), book=(LISTS, TRUTH))
        for first in ((0,), (1, 5, 7)):
            for second in ((0,), (1,)):
                self.right(sample, (((0, (2,), (5, 7, 8)),), ((7, first), (8, second)), ()))
        for first in ((), (1,), (0, 1), (1, 5), (2,), (-1, 5, 7), (-2,), (1, 5, 7, 7), (1, 5, 8)):
            self.wrong(sample, (((0, (2,), (5, 7, 8)),), ((7, first), (8, (0,))), ()))
        self.wrong(sample, (((0, (2,), (5, 7, 7)),), ((7, (0,)),), ()))

    def test_functions(self):
        sample = program((("take", 1, (NUM,), (0,)),), ("back", 0), [
            (1, (A, NUM), NUM, ((), ("back", 1))), IDENTITY, (1, (), NUM, ((("num", 1),), ("back", 0)))])
        for cell in ((1, 5), (0,), (2,)):
            self.right(sample, (((0, (1,), (5, 7)),), ((7, cell),), ()))
        for cell in ((), (1,), (1, 5, 5), (0, 5), (2, 5), (3,), (3, 5), (-1,), (-3,), (4,), (4, 5), (10 ** 39,), (-2,)):
            state = (((0, (1,), (5, 7)),), ((7, cell),), ())
            self.wrong(sample, state)
            self.right(sample, state, {})

    def test_unlike_kinds_for_one_cell(self):
        sample = program((("box", 0), ("row", (0,)), ("box", 1)), ("back", 0))
        self.right(sample, (((0, (3,), (5, 7, 8, 9)),), ((7, (5,)), (8, (5,)), (9, (7,))), ()))
        self.wrong(sample, (((0, (3,), (5, 7, 7, 9)),), ((7, (5,)), (8, (5,)), (9, (7,))), ()))
        self.wrong(sample, (((0, (3,), (5, 7, 8, 9)),), ((7, (5,)), (8, (5,)), (9, (8,))), ()))
        self.wrong(sample, (((0, (3,), (5, 7, 7, 9)),), ((7, (5,)), (8, (5,)), (9, (7,))), ()), {})
        self.right(sample, (((0, (3,), (5, 7, 8, 9)),), ((7, (5,)), (8, (5,)), (9, (8,))), ()), {})

    def test_another_body_above_a_body_step(self):
        sample = Program((), (
            main((("body", 1, (NUM,), (0,)),), ("back", 1)), IDENTITY, IDENTITY, (0, (NUM,), NUM, ((), ("back", 0)))))
        for body, is_right in ((1, True), (2, False), (3, False), (0, False)):
            state = (((0, (0,), (5,)), (body, (0,), (5,))), (), ())
            (self.right if is_right else self.wrong)(sample, state)
            self.right(sample, state, {})

    def test_other_bodies_above_a_call_step(self):
        sample = Program((), (
            main((("take", 0, (), ()), ("call", 1, (0,))), ("back", 2)), IDENTITY, (0, (row(NUM), NUM), NUM, ((), (
                "back", 1))), (0, (), NUM, ((("num", 1),), ("back", 0))), (0, (NUM, row(NUM)), NUM, ((), ("back", 0))),
            (0, (NUM,), row(NUM), ((("row", (0,)),), ("back", 1))), (1, (A, A), A, ((), ("back", 0)))))
        heap = ((7, (0,)), (8, (5,)))
        for body, words, is_right in (
                (0, (5,), True), (1, (5,), True), (2, (8, 5), True), (3, (), False), (4, (5, 8), False),
                (5, (5,), False), (6, (5, 5), True)):
            state = (((0, (1,), (5, 7)), (body, (0,), words)), heap, ())
            (self.right if is_right else self.wrong)(sample, state)
            self.right(sample, state, {})

    def test_letters_told_of_unlike_kinds(self):
        sample = ever(NUM)
        state = behind(sample, (5,), 3)
        self.right(sample, state)
        other = Program((), (
            main((("body", 1, (NUM,), ()),), ("back", 1)),
            (1, (), NUM, ((("body", 1, (box(A),), ()), ("num", 1)), ("back", 0)))))
        self.right(other, behind(other, (5,), 3))

    def test_cells_of_letters_that_clash(self):
        sample = using()
        state = behind(sample, (5,), 7)
        self.right(sample, state)
        self.wrong(sample, with_cell(state, 100, (5,)))
        self.wrong(sample, with_cell(state, 101, (1, 5)))
        self.right(sample, with_cell(state, 101, (3, 9)))
        self.right(sample, with_cell(state, 100, (9, 9)))
        self.wrong(sample, with_cell(state, 102, (1, 101, 101)))


class KindsTest(unittest.TestCase):
    def test_what_is_asked_of_data(self):
        sample = program((("way", 0, (data(0, NUM),), 0, ()),), ("back", 0), book=(LISTS,))
        self.right_way = (((0, (1,), (5, 7)),), ((6, (0,)), (7, (1, 6, 7))), ())
        self.assertTrue(found(sample, self.right_way, None).is_right)
        self.assertFalse(found(sample, with_cell(self.right_way, 7, (1, 7, 6)), None).is_right)

    def test_functions_of_functions(self):
        sample = nested()
        state = behind(sample, (5,), 4)
        self.assertTrue(found(sample, state, None).is_right)
        self.assertTrue(found(sample, with_cell(state, 100, ()), None).is_right)
        self.assertFalse(found(sample, with_cell(state, 101, (1, 100)), None).is_right)
        self.assertEqual(fun([NUM], NUM), sample.tables[0][(1,)][1][1])


if __name__ == "__main__":
    unittest.main()
