"""Programs exchanged at a stop: which ones take a state over, what is wrong if not, and what is told by both."""

import unittest

from barewords.collecting import collected
from barewords.errors import NoOver
from barewords.machine import begun, ran
from barewords.over import fault_of, retold, stands, takes_over
from barewords.programs import Program
from barewords.strangers import exchanged
from barewords.telling import open_spots, told
from naive_states import naive_fault
from samples import A, B, NIL, NUM, TRUTH, box, counting, fun, hold, main, program, row
from states import HOLD, behind, lists, nested, upwards, using

SAMPLES = ((hold, 6), (counting, 30), (nested, 9), (using, 12), (lists, 18))


class OverCase(unittest.TestCase):
    def check(self, other, state, expected):
        self.assertEqual(fault_of(other, state), expected)
        self.assertIs(takes_over(other, state), expected is None)
        self.assertIs(stands(other, state), expected in (None, ("kinds",)))
        self.assertEqual(naive_fault(other, state), expected)


class OwnProgramTest(OverCase):
    def test_the_program_itself(self):
        for sample, most in SAMPLES:
            for steps in range(most + 1):
                one = sample()
                state = behind(one, (5,), steps)
                self.check(one, state, None)
                self.check(sample(), collected(one, state, upwards), None)
                self.check(one, exchanged(one, state, {spot: 9 for spot in open_spots(one, state)}), None)

    def test_over(self):
        for state in (behind(hold(), (5,), 6), ((), (), ()), ((), ((1, ()), (2, (3, 4))), (5,)), ((), (), (1, 2, 3))):
            for sample, _ in SAMPLES:
                self.check(sample(), state, None)

    def test_begun(self):
        for sample, _ in SAMPLES:
            for other, _ in SAMPLES:
                self.check(other(), begun(sample(), (5,)), None)
        self.check(program((), ("back", 0), places=(NUM, NUM)), begun(hold(), (5,)), ("frame", 0))
        self.check(program((), ("back", 0), places=(NUM, NUM)), begun(hold(), (5,))[:1] + (((1, ()),), (2,)), ("frame", 0))


def with_body(sample, number, body):
    bodies = list(sample.bodies)
    bodies[number:number + 1] = [body]
    return Program(sample.book, tuple(bodies))


class OtherProgramsTest(OverCase):
    def setUp(self):
        # Body 0 waits at a call of body 1, which took 5 along as a thing of any kind.
        self.state = behind(hold(), (5,), 2)

    def test_other_numbers_sums_and_ends(self):
        for block in (((("sum", 1, 1), ("sum", 1, 2)), ("back", 4)), ((), ("back", 2)), ((("num", 9),), ("back", 3)), (
                (("box", 0), ("print", 1), ("box", 3)), ("if", 1, ((), ("back", 1)), ((), ("back", 2))))):
            other = with_body(hold(), 1, (1, (A, NUM, NUM), NUM, block))
            self.check(other, self.state, None)
        other = with_body(hold(), 0, main((("take", 1, (NUM,), (0, 0)), ("call", 1, (0,)), ("sum", 0, 2)), ("back", 3)))
        self.check(other, self.state, None)
        self.assertEqual(ran(other, self.state, upwards, 100)[2], (15,))

    def test_a_run_goes_on_by_the_other_program(self):
        other = with_body(hold(), 1, (1, (A, NUM, NUM), NUM, ((("num", 4), ("sum", 2, 3)), ("back", 4))))
        for word in (0, 100, -7):
            state = exchanged(other, self.state, {("pile", 1, 0): word, ("heap", 100, 1): word})
            self.assertEqual(ran(other, state, upwards, 100)[2], (9,))

    def test_letters_and_kinds_handed(self):
        # The letter is a number now, which no word of it may be against.
        numbers = Program((), (
            main((("take", 1, (), (0, 0)), ("call", 1, (0,))), ("back", 2)), (0, (NUM, NUM, NUM), NUM, ((), ("back", 0)))))
        self.check(numbers, self.state, None)
        # With a box in its place the word is no place of a cell.
        boxed = Program((), (
            main((("box", 0), ("take", 1, (), (1, 0)), ("call", 2, (0,))), ("back", 3)),
            (0, (box(NUM), NUM, NUM), NUM, ((("open", 0),), ("back", 3)))))
        self.check(boxed, self.state, ("frame", 0))
        thing = Program((), (
            main((("take", 1, (NIL,), (0,)), ("call", 1, (0,))), ("back", 2)), (1, (NUM, NUM), NUM, ((), ("back", 0)))))
        self.check(thing, self.state, ("frame", 1))

    def test_kinds_of_a_function_that_was_taken(self):
        # Body 1 is of another kind than the function in the cell: it takes a row, which is no cell.
        one = program((("num", 3), ("take", 1, (), (0,)), ("call", 2, (1,))), ("back", 3), (
            (0, (NUM, NUM), NUM, ((), ("back", 1))),))
        state = behind(one, (5,), 3)
        self.assertEqual(state[0], ((0, (2,), (5, 3, 100)), (1, (0,), (5, 3))))
        # A row is handed on, so the words of the frame and the cell are no rows.
        third = Program((), (
            main((("num", 3), ("take", 2, (), ()), ("call", 2, (1,))), ("back", 3)),
            (0, (row(NUM), NUM), NUM, ((), ("back", 1))), (0, (NUM,), NUM, ((), ("back", 0)))))
        self.check(third, state, ("kinds",))

    def test_bodies_exchanged(self):
        sample = using()
        bodies = sample.bodies
        for steps in range(13):
            state = behind(sample, (5,), steps)
            for ones in ((0, 1, 3, 2, 4), (0, 2, 1, 3, 4), (0, 1, 2, 3, 4)):
                try:
                    other = Program((), tuple(bodies[at] for at in ones))
                except ValueError:
                    continue
                self.check(other, state, naive_fault(other, state))
        two = Program((), (hold().bodies[0], HOLD, (0, (NUM, NUM, NUM), NUM, ((("print", 0),), ("back", 0)))))
        self.check(two, self.state, None)
        renumbered = Program((), (main((("take", 2, (NUM,), (0, 0)), ("call", 1, (0,))), ("back", 2)), two.bodies[2], HOLD))
        self.check(renumbered, self.state, None)
        self.assertEqual(told(renumbered, self.state)["pile", 1, 0], "num")

    def test_further_bodies(self):
        for sample, most in SAMPLES:
            one = sample()
            other = Program(one.book + (TRUTH,) * (6 - len(one.book)), one.bodies + (HOLD, (0, (), NIL, (
                (("nil",),), ("back", 0)))))
            for steps in range(most + 1):
                self.check(other, behind(one, (5,), steps), None)
                self.check(one, behind(other, (5,), steps), None)

    def test_fewer_bodies(self):
        fewer = Program((), (main((("num", 1), ("num", 2)), ("back", 0)),))
        self.check(fewer, behind(hold(), (5,), 0), None)
        self.check(fewer, behind(hold(), (5,), 1), None)
        # The first frame stands at no body step and no call step then.
        self.check(fewer, self.state, ("frame", 0))

    def test_body_steps(self):
        one = program((("body", 1, (), (0,)),), ("back", 1), ((0, (NUM,), NUM, ((), ("back", 0))),))
        state = behind(one, (5,), 1)
        more = (0, (NUM,), NUM, ((), ("back", 0)))
        self.check(program((("body", 1, (), (0,)),), ("back", 1), (more, more)), state, None)
        self.check(program((("body", 2, (), (0,)),), ("back", 1), (more, more)), state, ("kinds",))
        self.check(program((("body", 1, (NIL,), (0,)),), ("back", 1), ((1, (NUM,), NUM, ((), ("back", 0))),)), state, None)
        self.check(program((("body", 1, (NUM,), (0,)),), ("back", 1), ((1, (A,), A, ((), ("back", 0))),)), state, None)
        boxes = program((("box", 0), ("body", 1, (box(NUM),), (1,))), ("back", 0), ((1, (A,), A, ((), ("back", 0))),))
        self.check(boxes, (((0, (1,), (5, 7)), (1, (0,), (7,))), ((7, (3,)),), ()), None)
        self.check(boxes, (((0, (1,), (5, 7)), (1, (0,), (8,))), ((7, (3,)),), ()), ("kinds",))
        self.check(boxes, (((0, (1,), (5, 7)), (1, (0,), (8,))), ((7, (3,)), (8, (4,))), ()), None)
        self.check(boxes, (((0, (1,), (5, 7)), (1, (0,), (8,))), ((7, (3,)), (8, (4, 4))), ()), ("kinds",))

    def test_books(self):
        one = program((("way", 0, (), 1, ()), ("num", 2)), ("back", 2), book=(TRUTH,))
        state = behind(one, (5,), 2)
        for ways, expected in ((((), ()), None), (((), (), ()), None), (((),), ("kinds",)), (((), (NUM,)), ("kinds",))):
            other = program((("way", 0, (), 0, ()), ("num", 2)), ("back", 2), book=((0, ways),))
            self.check(other, state, expected)


class OtherStatesTest(OverCase):
    def setUp(self):
        self.state = behind(hold(), (5,), 2)
        self.pile, self.heap, self.said = self.state
        self.assertEqual(self.state, (((0, (1,), (5, 100)), (1, (0,), (5, 5, 5))), ((100, (1, 5, 5)),), ()))

    def pile_fault(self, *pile, fault):
        self.check(hold(), (pile, self.heap, self.said), fault)

    def heap_fault(self, *heap, fault):
        self.check(hold(), (self.pile, heap, self.said), fault)

    def test_words(self):
        one, two = self.pile
        for word in (0, -1, 99, 101, 10 ** 39):
            self.pile_fault((0, (1,), (5, word)), two, fault=("kinds",))
            self.pile_fault((0, (1,), (word, 100)), two, fault=None)
            for at in range(3):
                words = [5, 5, 5]
                words[at] = word
                self.pile_fault(one, (1, (0,), tuple(words)), fault=None)
        self.check(hold(), (self.pile, self.heap, (1, 2, 3)), None)

    def test_how_many_words(self):
        one, two = self.pile
        for words in ((), (5,), (5, 100, 100)):
            self.pile_fault((0, (1,), words), two, fault=("frame", 0))
        for words in ((), (5,), (5, 5), (5, 5, 5, 5)):
            self.pile_fault(one, (1, (0,), words), fault=("frame", 1))

    def test_bodies_that_are_not_there(self):
        one, two = self.pile
        for body in (-1, -2, 2, 3, 10 ** 39, -10 ** 39):
            self.pile_fault((body, *one[1:]), two, fault=("frame", 0))
            self.pile_fault(one, (body, *two[1:]), fault=("frame", 1))
        self.pile_fault((1, (0,), (5, 5, 5)), fault=("frame", 0))
        self.pile_fault(two, one, fault=("frame", 0))
        self.pile_fault((1, (1,), (5, 5, 5, 100)), two, fault=("frame", 0))

    def test_points_that_are_not_there(self):
        one, two = self.pile
        for point in ((), (-1,), (3,), (0, 0), (0, 0, 0), (1, 0, 0), (10 ** 39,), (2, 0, 0), (0,) * 100):
            self.pile_fault((0, point, one[2]), two, fault=("frame", 0))
            self.pile_fault(one, (1, point, two[2]), fault=("frame", 1))
        sample = counting()
        state = behind(sample, (2,), 3)
        self.assertEqual(state[0][1], (2, (0, 0, 0), (2,)))
        for point in ((0,), (0, 1, 0), (0, 0, 0)):
            self.check(sample, ((state[0][0], (2, point, (2,))), (), ()), None)
        for point in ((0, 2, 0), (0, -1, 0), (0, 0), (0, 0, 0, 0), (0, 0, -1), (1, 0, 0)):
            self.check(sample, ((state[0][0], (2, point, (2,))), (), ()), ("frame", 1))

    def test_frames_that_wait_elsewhere(self):
        one, two = self.pile
        self.pile_fault((0, (0,), (5,)), two, fault=("frame", 0))
        self.pile_fault((0, (2,), (5, 100, 5)), two, fault=("frame", 0))
        self.pile_fault(one, (1, (1,), (5, 5, 5, 6)), fault=("kinds",))
        self.pile_fault(one, (1, (2,), (5, 5, 5, 6, 7)), fault=("kinds",))
        self.pile_fault(one, two, two, fault=("frame", 1))
        self.pile_fault(one, fault=None)
        self.pile_fault((0, (2,), (5, 100, 5)), fault=None)
        # Body 0 is no body that the call may be of: it has one number.
        self.pile_fault(one, (0, (0,), (5,)), fault=None)
        self.pile_fault(one, one, two, fault=None)
        # One that is of the kinds of the call, though of another body than the function; and one that is not.
        self.check(using(), (((0, (1,), (5, 7)), (3, (0,), (5, 5))), ((7, (3, 5)),), ()), None)
        self.check(using(), (((0, (1,), (5, 7)), (2, (0,), (8,))), ((7, (3, 5)), (8, (5, 5))), ()), ("kinds",))

    def test_the_first_frame_is_named(self):
        one, two = self.pile
        bad = (7, (), ())
        self.pile_fault(bad, bad, fault=("frame", 0))
        self.pile_fault(one, bad, bad, fault=("frame", 1))
        self.pile_fault(one, one, one, bad, fault=("frame", 3))
        self.pile_fault(one, two, bad, fault=("frame", 1))
        # The frames come ahead of the kinds.
        self.check(hold(), ((one, bad), (), ()), ("frame", 1))
        self.check(hold(), ((one, two), (), ()), ("kinds",))

    def test_cells(self):
        for cell in ((), (1,), (1, 5), (1, 5, 5, 5), (0, 5, 5), (2, 5, 5), (-1, 5, 5), (10 ** 39,), (0, 5), (-2,)):
            self.heap_fault((100, cell), fault=("kinds",))
        self.heap_fault((100, (1, -7, 10 ** 39)), fault=None)
        self.heap_fault((100, (0,)), fault=None)
        self.heap_fault(fault=("kinds",))
        self.heap_fault((99, (1, 5, 5)), fault=("kinds",))
        self.heap_fault((-3, (1,)), (100, (1, 5, 5)), (101, (100, 100)), fault=None)

    def test_ways(self):
        sample = lists()
        state = behind(sample, (5,), 12)
        cells = dict(state[1])
        self.assertEqual(cells[103], (0,))
        for cell in ((), (1,), (2,), (-1,), (0, 5), (1, 5), (1, 5, 5), (10 ** 39,)):
            heap = tuple(sorted({**cells, 103: cell}.items()))
            self.check(sample, (state[0], heap, ()), ("kinds",))
        # A list that holds itself.
        heap = tuple(sorted({**cells, 103: (1, 5, 103)}.items()))
        self.check(sample, (state[0], heap, ()), None)

    def test_cells_of_two_kinds(self):
        sample = program((("box", 0), ("row", (0,)), ("box", 1)), ("back", 0))
        state = behind(sample, (5,), 3)
        self.assertEqual(state[0], ((0, (3,), (5, 100, 101, 102)),))
        for words, fault in (((5, 100, 101, 102), None), ((5, 100, 100, 102), ("kinds",)), ((5, 101, 101, 102), ("kinds",)),
                             ((5, 101, 100, 102), ("kinds",)), ((5, 100, 101, 100), ("kinds",)), ((5, 7, 8, 9), ("kinds",))):
            self.check(sample, (((0, (3,), words),), state[1], ()), fault)
        self.check(sample, (((0, (3,), (5, 101, 100, 102)),), ((100, (5,)), (101, (5,)), (102, (101,))), ()), None)

    def test_kinds_that_would_hold_themselves(self):
        sample = Program((), (
            main((("box", 0), ("box", 1), ("body", 1, (NUM,), (1, 2))), ("back", 0)),
            (1, (box(A), box(box(A))), A, ((("open", 0),), ("back", 2)))))
        state = behind(sample, (5,), 3)
        self.assertEqual(state[0][1], (1, (0,), (100, 101)))
        self.check(sample, state, None)
        body_1 = (1, (0,), (7, 7))
        # Both kinds are of one cell, so the letter would be a box of itself.
        self.check(sample, (((0, (2,), (5, 7, 7)), body_1), ((7, (7,)),), ()), ("kinds",))
        # By frames that tell nothing of each other: a letter that is a box of it by one cell at two words.
        loop = Program((), (
            main((("take", 2, (), ()), ("call", 1, (0,))), ("back", 2)),
            (1, (box(A), box(box(A)), NUM), NUM, ((), ("back", 2))),
            (0, (NUM,), NUM, ((), ("back", 0)))))
        pile = ((0, (1,), (5, 1)), (1, (0,), (7, 7, 5)))
        self.check(loop, (pile, ((1, (2,)), (7, (7,))), ()), ("kinds",))
        pile = ((0, (1,), (5, 1)), (1, (0,), (8, 7, 5)))
        self.check(loop, (pile, ((1, (2,)), (7, (8,)), (8, (7,))), ()), None)
        # Longer ways around: rows and functions between.
        longer = Program((), (
            loop.bodies[0], (2, (box(A), box(row(B, NUM)), box(B), box(fun([A], NUM)), NUM), NUM, ((), ("back", 4))),
            loop.bodies[2]))
        pile = ((0, (1,), (5, 1)), (1, (0,), (7, 7, 8, 8, 5)))
        cells = ((1, (2,)), (7, (9,)), (8, (10,)), (9, (10, 5)), (10, (2,)))
        self.assertEqual(fault_of(longer, (pile, cells, ())), ("kinds",))
        pile = ((0, (1,), (5, 1)), (1, (0,), (7, 11, 8, 12, 5)))
        cells += ((11, (9,)), (12, (13,)), (13, (2,)))
        self.check(longer, (pile, cells, ()), None)

    def test_deep_piles(self):
        sample = counting()
        state = behind(sample, (5,), 8)
        frame = state[0][1]
        pile = (state[0][0],) + (frame[:1] + ((0, 0, 2), (5, -1, 4)),) * 3000
        self.assertIsNone(fault_of(sample, (pile, (), ())))
        self.assertEqual(fault_of(sample, (pile + ((2, (0,), ()),), (), ())), ("frame", 3001))

    def test_nothing_is_changed(self):
        state = (self.pile, self.heap + ((200, (7,)),), self.said)
        again = behind(hold(), (5,), 2)
        takes_over(hold(), state)
        self.assertEqual(state, (again[0], again[1] + ((200, (7,)),), ()))


class RetoldTest(unittest.TestCase):
    def test_the_program_itself(self):
        for sample, most in SAMPLES:
            one = sample()
            for steps in range(most + 1):
                state = behind(one, (5,), steps)
                self.assertEqual(retold(one, sample(), state), (tuple(sorted(told(one, state))), (), ()))

    def test_unlike_heads_and_spots_of_one(self):
        one = program((("box", 0), ("nil",), ("box", 1)), ("back", 0))
        other = program((("row", (0,)), ("num", 2), ("box", 1)), ("back", 0))
        state = behind(one, (5,), 3)
        self.assertEqual(state[0], ((0, (3,), (5, 100, 0, 101)),))
        self.assertEqual(retold(one, other, state), (
            (("heap", 100, 0), ("pile", 0, 0), ("pile", 0, 3)), (("heap", 101, 0), ("pile", 0, 1)), (("pile", 0, 2),)))
        self.assertEqual(retold(other, one, state), retold(one, other, state))

    def test_cells_met_by_one_alone(self):
        one = program((("box", 0), ("num", 3)), ("back", 0))
        other = program((("num", 4), ("num", 3)), ("back", 0))
        state = behind(one, (5,), 2)
        lots = ((("pile", 0, 0), ("pile", 0, 2)), (("pile", 0, 1),), (("heap", 100, 0),))
        self.assertEqual(retold(one, other, state), lots)
        self.assertEqual(retold(other, one, state), lots)

    def test_letters_that_are_told_by_the_other_program(self):
        state = behind(hold(), (5,), 2)
        other = Program((), (
            main((("take", 1, (), (0, 0)), ("call", 1, (0,))), ("back", 2)), (0, (NUM, NUM, NUM), NUM, ((), ("back", 0)))))
        same = tuple(sorted(told(hold(), state)))
        self.assertEqual(retold(hold(), other, state), (same, (), (("heap", 100, 1), ("pile", 1, 0))))
        self.assertIs(type(retold(hold(), other, state)), tuple)

    def test_over(self):
        self.assertEqual(retold(hold(), lists(), behind(hold(), (5,), 6)), ((), (), ()))

    def test_no_over(self):
        state = behind(hold(), (5,), 2)
        for one, other in ((hold(), counting()), (hold(), lists()), (counting(), lists())):
            with self.assertRaises(NoOver):
                retold(one, other, state)
            with self.assertRaises(NoOver):
                retold(other, one, state)
        for wrong in (((7, (), ()),), ((0, (0,), ()),), ((0, (1,), (5, 101)),)):
            with self.assertRaises(NoOver):
                retold(hold(), hold(), (wrong, ((100, (1, 5, 5)),), ()))


class FactTest(unittest.TestCase):
    def test_no_open_word_is_looked_into_by_the_other_program(self):
        one = nested()
        other = with_body(one, 1, (1, (A, NUM, NUM), NUM, ((("row", (0, 0)), ("part", 3, 1), ("less", 1, 2)), ("back", 5))))
        for steps in range(10):
            state = behind(one, (5,), steps)
            if not takes_over(other, state):
                continue
            for placer in (upwards, lambda places: -1 - len(places)):
                moved = collected(other, exchanged(other, state, {spot: 7 for spot in open_spots(other, state)}), placer)
                self.assertEqual(ran(other, moved, upwards, 100)[2], ran(other, state, upwards, 100)[2])
                self.assertTrue(takes_over(other, moved))


if __name__ == "__main__":
    unittest.main()
