"""The machine: states, what each step and each end does, and where new cells may come."""

import unittest

from barewords.errors import IsOver, NoInputs, NoPlace
from barewords.machine import begun, is_making, next_state
from barewords.programs import Program, row_at
from samples import (
    A, EITHER, IDENTITY, LISTS, NUM, TRUTH, box, counting, data, fun, hold, main, odd_things, program, row)
from states import HOLD, behind

PLACES = (0, 1, 5, -1, -7, 10 ** 39, -10 ** 39, 100)


def walk(sample, state, *places):
    """The states behind steps and ends, with these as places for new cells."""
    states = []
    for place in places:
        state = next_state(sample, state, place)
        states.append(state)
    return states


class BegunTest(unittest.TestCase):
    def test_begun(self):
        self.assertEqual(begun(hold(), (5,)), (((0, (0,), (5,)),), (), ()))
        sample = program((), ("back", 1), places=(NUM,) * 3)
        self.assertEqual(begun(sample, (-1, 0, 10 ** 39)), (((0, (0,), (-1, 0, 10 ** 39)),), (), ()))
        self.assertEqual(begun(program((("num", 1),), ("back", 0), places=()), ()), (((0, (0,), ()),), (), ()))

    def test_no_inputs(self):
        for thing in odd_things() + [(1, 2), (1, True), ("1",), [1], 1]:
            if thing != (0,):
                with self.assertRaises(NoInputs):
                    begun(hold(), thing)
        for thing in (), (1,), (1, False), (1, 2, 3), [1, 2], (1, None), ((1, 2),):
            with self.assertRaises(NoInputs):
                begun(program((), ("back", 0), places=(NUM, NUM)), thing)


class StepsTest(unittest.TestCase):
    def follows(self, steps, inputs, places, last, more=(), book=()):
        """The state behind steps, one place for each, is the one whose words and heap are told."""
        sample = program(tuple(steps), ("back", 0), more, book, (NUM,) * len(inputs))
        state = begun(sample, inputs)
        for place in places:
            ahead = state
            state = next_state(sample, state, place)
            self.assertEqual(len(ahead[0][0][2]) + 1, len(state[0][0][2]))
        words, heap, said = last
        self.assertEqual(state, (((0, (len(places),), words),), heap, said))

    def test_num_and_nil(self):
        for number in (0, 7, -7, 10 ** 12, -10 ** 12):
            self.follows([("num", number)], (5,), [None], ((5, number), (), ()))
        self.follows([("nil",), ("nil",)], (5,), [None, 7], ((5, 0, 0), (), ()))

    def test_sum_and_less(self):
        self.follows([("sum", 0, 1), ("sum", 2, 2)], (10 ** 39, 1), [None] * 2, (
            (10 ** 39, 1, 10 ** 39 + 1, 2 * 10 ** 39 + 2), (), ()))
        self.follows([("less", 0, 1), ("less", 1, 0), ("less", 0, 0)], (-2, -1), [None] * 3, (
            (-2, -1, 1, 0, 0), (), ()))

    def test_less_makes_no_flag(self):
        sample = program((("less", 0, 1),), ("back", 0), places=(NUM, NUM))
        for inputs in ((1, 2), (2, 1)):
            state = next_state(sample, begun(sample, inputs), None)
            self.assertNotIsInstance(state[0][0][2][2], bool)

    def test_row_and_part(self):
        for place in PLACES:
            self.follows([("row", (1, 0, 1))], (5, 6), [place], ((5, 6, place), ((place, (6, 5, 6)),), ()))
            self.follows([("row", (1, 0, 1)), ("part", 2, 1), ("part", 2, 2)], (5, 6), [place, None, place], (
                (5, 6, place, 5, 6), ((place, (6, 5, 6)),), ()))

    def test_way(self):
        self.follows([("way", 0, (NUM,), 0, ()), ("way", 0, (NUM,), 1, (0, 1)), ("way", 1, (), 1, ())], (5,), [7, 0, 5], (
            (5, 7, 0, 5), ((0, (1, 5, 7)), (5, (1,)), (7, (0,))), ()), book=(LISTS, TRUTH))

    def test_take(self):
        more = [HOLD, IDENTITY]
        self.follows([("take", 1, (NUM,), ()), ("take", 1, (NUM,), (0,)), ("take", 1, (NUM,), (1, 0)),
                      ("take", 2, (NUM,), ())], (5, 6), [4, 3, 2, 1], (
            (5, 6, 4, 3, 2, 1), ((1, (2,)), (2, (1, 6, 5)), (3, (1, 5)), (4, (1,))), ()), more)

    def test_box_open_and_put(self):
        for place in PLACES:
            self.follows([("box", 0), ("open", 2)], (5, 6), [place, 3], ((5, 6, place, 5), ((place, (5,)),), ()))
            self.follows([("box", 0), ("put", 2, 1), ("open", 2)], (5, 6), [place, place, None], (
                (5, 6, place, 0, 6), ((place, (6,)),), ()))

    def test_boxes_in_boxes(self):
        self.follows([("box", 0), ("box", 1), ("box", 0), ("put", 2, 3), ("open", 2), ("open", 5)], (5,), [
            1, 2, 3, 4, 5, 6], ((5, 1, 2, 3, 0, 3, 5), ((1, (5,)), (2, (3,)), (3, (5,))), ()))

    def test_print(self):
        self.follows([("print", 0), ("print", 1), ("print", 0)], (5, -6), [None] * 3, (
            (5, -6, 0, 0, 0), (), (5, -6, 5)))

    def test_cells_are_ascending(self):
        places = [3, -1, 10 ** 39, 0, 2, -10 ** 39, 1, 7]
        heap = tuple((place, (5,)) for place in sorted(places))
        self.follows([("box", 0)] * 8, (5,), places, ((5, *places), heap, ()))


class CallsTest(unittest.TestCase):
    def test_body(self):
        sample = program((("body", 1, (), (1, 0)), ("sum", 0, 2)), ("back", 3), [
            (0, (NUM, NUM), NUM, ((("num", 9),), ("back", 1)))], places=(NUM, NUM))
        states = walk(sample, begun(sample, (5, 6)), None, None, None, None, None)
        self.assertEqual(states, [
            (((0, (0,), (5, 6)), (1, (0,), (6, 5))), (), ()),
            (((0, (0,), (5, 6)), (1, (1,), (6, 5, 9))), (), ()),
            (((0, (1,), (5, 6, 5)),), (), ()),
            (((0, (2,), (5, 6, 5, 10)),), (), ()),
            ((), (), (10,))])

    def test_call_hands_behind_what_was_taken_along(self):
        sample = program((("take", 1, (), (2, 0)), ("call", 3, (1, 2))), ("back", 4), [
            (0, (NUM,) * 4, NUM, ((), ("back", 1)))], places=(NUM,) * 3)
        states = walk(sample, begun(sample, (5, 6, 7)), -1, None, 3, 0)
        heap = ((-1, (1, 7, 5)),)
        self.assertEqual(states, [
            (((0, (1,), (5, 6, 7, -1)),), heap, ()),
            (((0, (1,), (5, 6, 7, -1)), (1, (0,), (7, 5, 6, 7))), heap, ()),
            (((0, (2,), (5, 6, 7, -1, 5)),), heap, ()),
            ((), heap, (5,))])

    def test_call_of_what_took_nothing(self):
        sample = program((("take", 1, (NUM,), ()), ("call", 1, (0,))), ("back", 2), [IDENTITY])
        states = walk(sample, begun(sample, (5,)), 5, 5, 5, 5)
        self.assertEqual(states[1], (((0, (1,), (5, 5)), (1, (0,), (5,))), ((5, (1,)),), ()))
        self.assertEqual(states[3], ((), ((5, (1,)),), (5,)))

    def test_body_calls_itself(self):
        sample = counting()
        state = behind(sample, (3,), 6)
        self.assertEqual(state, (((0, (1,), (3, 0)), (2, (0, 0, 2), (3, -1, 2)), (2, (0,), (2,))), (), (3,)))

    def test_back_of_a_link(self):
        sample = program((("body", 1, (), (0,)), ("open", 1)), ("back", 2), [
            (0, (NUM,), box(NUM), ((("box", 0),), ("back", 1)))])
        states = walk(sample, begun(sample, (5,)), None, 9, None, None, None)
        self.assertEqual(states[2], (((0, (1,), (5, 9)),), ((9, (5,)),), ()))
        self.assertEqual(states[4], ((), ((9, (5,)),), (5,)))


class EndsTest(unittest.TestCase):
    def test_last_back(self):
        sample = program((("print", 0),), ("back", 0))
        self.assertEqual(walk(sample, begun(sample, (7,)), None, None)[1], ((), (), (7, 7)))

    def test_if(self):
        sample = program((("num", 3),), ("if", 0, ((("num", 8),), ("back", 2)), ((), ("back", 1))))
        for number, block in ((1, 0), (-1, 0), (10 ** 39, 0), (0, 1)):
            state = walk(sample, begun(sample, (number,)), None, None)[1]
            self.assertEqual(state, (((0, (1, block, 0), (number, 3)),), (), ()))
        self.assertEqual(behind(sample, (1,), 3), (((0, (1, 0, 1), (1, 3, 8)),), (), ()))
        self.assertEqual(behind(sample, (1,), 4), ((), (), (8,)))
        self.assertEqual(behind(sample, (0,), 3), ((), (), (3,)))

    def test_if_within_if(self):
        inner = ((), ("if", 1, ((), ("back", 0)), ((("nil",),), ("back", 1))))
        sample = program((), ("if", 0, ((), ("back", 1)), inner), places=(NUM, NUM))
        states = walk(sample, begun(sample, (0, 0)), *range(4))
        self.assertEqual([state[0] for state in states], [
            ((0, (0, 1, 0), (0, 0)),), ((0, (0, 1, 0, 1, 0), (0, 0)),), ((0, (0, 1, 0, 1, 1), (0, 0, 0)),), ()])

    def test_look(self):
        book = ((2, ((), (A, ("letter", 1), A), (("letter", 1),))),)
        blocks = (((), ("back", 0)), ((("sum", 2, 4),), ("back", 5)), ((), ("back", 0)))
        for way, places, block, words in (
                (0, (), 0, ()), (1, (0, 0, 0), 1, (5, 5, 5)), (2, (0,), 2, (5,))):
            sample = program((("way", 0, (NUM, NUM), way, places),), ("look", 1, blocks), book=book)
            state = walk(sample, begun(sample, (5,)), 0, None)[1]
            self.assertEqual(state, (((0, (1, block, 0), (5, 0, *words)),), ((0, (way, *words)),), ()))

    def test_look_with_steps_behind(self):
        sample = program((("way", 0, (NUM, box(NUM)), 0, (0,)),), ("look", 1, (
            ((("num", 4), ("sum", 2, 3)), ("back", 4)), ((("open", 2),), ("back", 3)))), book=(EITHER,))
        states = walk(sample, begun(sample, (5,)), 1, 1, 1, 1, 1)
        self.assertEqual(states[2], (((0, (1, 0, 1), (5, 1, 5, 4)),), ((1, (0, 5)),), ()))
        self.assertEqual(states[4], ((), ((1, (0, 5)),), (9,)))


class StopsTest(unittest.TestCase):
    STEPS = (
        ("num", 1), ("nil",), ("sum", 0, 0), ("less", 0, 0), ("row", (0,)), ("part", 5, 0), ("way", 0, (NUM,), 0, ()),
        ("take", 1, (NUM,), ()), ("box", 0), ("open", 9), ("put", 9, 0), ("print", 0), ("body", 1, (NUM,), (0,)),
        ("call", 8, (0,)))

    def test_is_making_just_at_four_steps(self):
        sample = program(self.STEPS, ("if", 0, ((), ("back", 0)), ((), ("back", 0))), [IDENTITY], (LISTS,))
        state = begun(sample, (5,))
        making = []
        seen = []
        while state[0]:
            body, point, _ = state[0][-1]
            head = row_at(sample, body, point)[0]
            seen.append(head)
            self.assertIs(is_making(sample, state), head in ("row", "way", "take", "box"))
            if is_making(sample, state):
                making.append(head)
            state = next_state(sample, state, 100 + len(making))
        self.assertEqual(making, ["row", "way", "take", "box"])
        self.assertEqual(seen, [step[0] for step in self.STEPS[:13]] + ["back", "call", "back", "if", "back"])
        self.assertIs(is_making(sample, state), False)

    def test_no_place_for_what_is_no_integer(self):
        for step, more, book in (
                (("row", (0,)), (), ()), (("way", 0, (NUM,), 0, ()), (), (LISTS,)),
                (("take", 1, (NUM,), ()), (IDENTITY,), ()), (("box", 0), (), ())):
            sample = program((step,), ("back", 0), more, book)
            state = begun(sample, (5,))
            for thing in odd_things():
                if type(thing) is not int:
                    with self.assertRaises(NoPlace):
                        next_state(sample, state, thing)
            self.assertEqual(state, (((0, (0,), (5,)),), (), ()))

    def test_no_place_for_a_place_that_is_taken(self):
        sample = program((("box", 0),) * 4, ("back", 0))
        state = behind(sample, (5,), 3)
        for place in (100, 101, 102):
            with self.assertRaises(NoPlace):
                next_state(sample, state, place)
        for place in (99, 103, 0, 5, -1, 10 ** 39):
            self.assertIn((place, (5,)), next_state(sample, state, place)[1])

    def test_any_thing_is_a_place_where_nothing_is_made(self):
        sample = program((("num", 1),), ("back", 0))
        for thing in odd_things():
            self.assertEqual(next_state(sample, begun(sample, (5,)), thing), (((0, (1,), (5, 1)),), (), ()))
            self.assertEqual(next_state(sample, behind(sample, (5,), 1), thing), ((), (), (5,)))

    def test_places_taken_are_free_for_what_makes_nothing(self):
        sample = program((("box", 0), ("open", 1)), ("back", 0))
        state = next_state(sample, begun(sample, (5,)), 7)
        self.assertEqual(next_state(sample, state, 7), (((0, (2,), (5, 7, 5)),), ((7, (5,)),), ()))

    def test_is_over(self):
        sample = program((), ("back", 0))
        over = next_state(sample, begun(sample, (5,)), None)
        for thing in [1, 0] + odd_things():
            with self.assertRaises(IsOver):
                next_state(sample, over, thing)

    def test_the_state_handed_in_stays(self):
        sample = program((("box", 0), ("put", 1, 0), ("box", 1), ("print", 0)), ("back", 0))
        state = begun(sample, (5,))
        kept = []
        for place in (3, None, 1, None, None):
            kept.append((state, repr(state)))
            state = next_state(sample, state, place)
        for one, told in kept:
            self.assertEqual(repr(one), told)


class BareTest(unittest.TestCase):
    def test_numbers_look_like_places(self):
        sample = program((("row", (0, 0)), ("box", 1), ("sum", 0, 0), ("open", 2), ("part", 4, 1)), ("back", 5))
        state = walk(sample, begun(sample, (1,)), 2, 1, None, None, None, None)[-1]
        self.assertEqual(state, ((), ((1, (2,)), (2, (1, 1))), (1,)))

    def test_functions_of_rows_and_boxes(self):
        pair = row(NUM, NUM)
        sample = Program((), (
            main((("row", (0, 1)), ("take", 1, (), (2,)), ("box", 3), ("open", 4), ("call", 5, (0,))), ("back", 6), (NUM, NUM)),
            (0, (pair, NUM), NUM, ((("part", 0, 1), ("sum", 1, 2)), ("back", 3)))))
        states = walk(sample, begun(sample, (3, 4)), 0, 1, 2, 3, 4, 5, 6, 7, 8)
        self.assertEqual(states[4], (
            ((0, (4,), (3, 4, 0, 1, 2, 1)), (1, (0,), (0, 3))), ((0, (3, 4)), (1, (1, 0)), (2, (1,))), ()))
        self.assertEqual(states[8], ((), states[4][1], (7,)))

    def test_trees(self):
        kind = fun([NUM], data(0, NUM))
        sample = Program((LISTS,), (
            main((("take", 1, (), (0,)), ("call", 1, (0,))), ("look", 2, (((), ("back", 0)), ((), ("back", 3))))),
            (0, (NUM, NUM), data(0, NUM), (
                (("way", 0, (NUM,), 0, ()), ("way", 0, (NUM,), 1, (1, 2))), ("back", 3)))))
        self.assertEqual(kind, sample.tables[0][(1,)][1][1])
        state = walk(sample, begun(sample, (4,)), 4, None, 0, 1, None, None)[-1]
        self.assertEqual(state, (((0, (2, 1, 0), (4, 4, 1, 4, 0)),), ((0, (0,)), (1, (1, 4, 0)), (4, (1, 4))), ()))


if __name__ == "__main__":
    unittest.main()
