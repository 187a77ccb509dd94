"""Plain runs: each step, each end, and the bounds."""

import unittest

from barewords.errors import NoInputs, NoNumber
from barewords.plain import plain
from barewords.programs import Program
from samples import (
    A, B, EITHER, IDENTITY, LISTS, NIL, NUM, TRUTH, box, counting, data, fun, hold, odd_things, program, row)


def said(steps, place, inputs=(), more=(), book=()):
    """What a body 0 of these steps says, its answer at this place."""
    sample = program(tuple(steps), ("back", place), more, book, (NUM,) * len(inputs))
    numbers, is_over = plain(sample, inputs, 100000)
    assert is_over
    return numbers


class StepsTest(unittest.TestCase):
    def test_num(self):
        for number in (0, 7, -7, 10 ** 12, -10 ** 12):
            self.assertEqual(said([("num", number)], 0), (number,))

    def test_inputs(self):
        self.assertEqual(said([], 0, (5, 6)), (5,))
        self.assertEqual(said([], 1, (5, 6)), (6,))
        self.assertEqual(said([], 4, (1, 2, 3, 4, -10 ** 39)), (-10 ** 39,))

    def test_sum(self):
        for one, two in ((1, 2), (-3, 3), (10 ** 39, 10 ** 39), (-5, -6)):
            self.assertEqual(said([("sum", 0, 1)], 2, (one, two)), (one + two,))

    def test_sums_are_as_great_as_they_are(self):
        steps = [("sum", place, place) for place in range(60)]
        self.assertEqual(said(steps, 60, (10 ** 39,)), (10 ** 39 * 2 ** 60,))

    def test_less(self):
        for one, two in ((1, 2), (2, 1), (2, 2), (-2, -1), (-1, -2), (0, 10 ** 39)):
            self.assertEqual(said([("less", 0, 1)], 2, (one, two)), (1 if one < two else 0,))
            answer = said([("less", 0, 1)], 2, (one, two))[0]
            self.assertNotIsInstance(answer, bool)

    def test_row_and_part(self):
        steps = [("row", (0, 1, 2, 0)), ("part", 3, 1), ("row", (3, 4)), ("part", 5, 0), ("part", 6, 2)]
        self.assertEqual(said(steps, 4, (7, 8, 9)), (8,))
        self.assertEqual(said(steps, 7, (7, 8, 9)), (9,))

    def test_nil_is_carried(self):
        steps = [("nil",), ("row", (1, 0)), ("part", 2, 0), ("box", 3), ("put", 4, 1), ("part", 2, 1)]
        self.assertEqual(said(steps, 6, (5,)), (5,))

    def test_boxes(self):
        steps = [("box", 0), ("open", 2), ("put", 2, 1), ("open", 2)]
        self.assertEqual(said(steps, 3, (4, 9)), (4,))
        self.assertEqual(said(steps, 5, (4, 9)), (9,))

    def test_boxes_are_shared_and_apart(self):
        steps = [("box", 0), ("box", 0), ("row", (2, 2, 3)), ("part", 4, 1), ("put", 5, 1), ("open", 2), ("open", 3),
                 ("print", 7), ("print", 8)]
        self.assertEqual(said(steps, 0, (4, 9)), (9, 4, 4))

    def test_boxes_hold_what_each_was_made_of(self):
        steps = [("box", 0), ("box", 1), ("box", 2)] + [("open", place) for place in (3, 4, 5)]
        steps += [("print", place) for place in (6, 7, 8)]
        self.assertEqual(said(steps, 0, (4, 9, 2)), (4, 9, 2, 4))

    def test_a_box_of_a_box(self):
        steps = [("box", 0), ("box", 1), ("box", 0), ("put", 2, 3), ("open", 2), ("num", 6), ("put", 5, 6), ("open", 3),
                 ("open", 1), ("print", 8)]
        self.assertEqual(said(steps, 9, (4,)), (6, 4))

    def test_print(self):
        self.assertEqual(said([("print", 0), ("print", 1), ("print", 0)], 1, (3, -4)), (3, -4, 3, -4))

    def test_body(self):
        less = (0, (NUM, NUM), NUM, ((("print", 0), ("less", 0, 1)), ("back", 3)))
        self.assertEqual(said([("body", 1, (), (1, 0)), ("print", 2), ("body", 1, (), (0, 1))], 4, (3, 4), (less,)),
                         (4, 0, 3, 1))

    def test_take_and_call(self):
        last = (2, (A, NUM, B, NUM), NUM, ((("print", 1),), ("back", 3)))
        for taken in range(1, 4):
            handed = (0, 1, 3, 2)
            steps = [("nil",), ("take", 1, (NUM, NIL), handed[:taken]), ("call", 4, handed[taken:])]
            self.assertEqual(said(steps, 5, (6, 7, 8), (last,)), (7, 8))

    def test_a_function_called_twice(self):
        plus = (0, (NUM, NUM), NUM, ((("sum", 0, 1),), ("back", 2)))
        steps = [("take", 1, (), (0,)), ("call", 1, (0,)), ("call", 1, (2,))]
        self.assertEqual(said(steps, 3, (5,), (plus,)), (15,))

    def test_a_function_with_nothing_taken(self):
        self.assertEqual(said([("take", 1, (NUM,), ()), ("call", 1, (0,))], 2, (5,), (IDENTITY,)), (5,))

    def test_a_function_handed_on(self):
        twice = (1, (fun([A], A), A), A, ((("call", 0, (1,)), ("call", 0, (2,))), ("back", 3)))
        plus = (0, (NUM, NUM), NUM, ((("sum", 0, 1),), ("back", 2)))
        steps = [("take", 1, (), (1,)), ("body", 2, (NUM,), (2, 0))]
        self.assertEqual(said(steps, 3, (5, 100), (plus, twice)), (205,))

    def test_a_function_that_takes_a_box_along(self):
        count = (0, (box(NUM), NUM), NUM, ((("open", 0), ("sum", 2, 1), ("put", 0, 3)), ("back", 3)))
        steps = [("box", 0), ("take", 1, (), (1,)), ("call", 2, (0,)), ("call", 2, (0,)), ("open", 1)]
        self.assertEqual(said(steps, 5, (5,), (count,)), (15,))

    def test_calls_hand_places_in_order(self):
        parts = (0, (NUM, NUM, NUM), row(NUM, NUM, NUM), ((("row", (0, 1, 2)),), ("back", 3)))
        steps = [("take", 1, (), ()), ("call", 3, (2, 0, 1))] + [("part", 4, at) for at in range(3)]
        steps += [("print", 5), ("print", 6)]
        self.assertEqual(said(steps, 7, (1, 2, 3), (parts,)), (3, 1, 2))


class EndsTest(unittest.TestCase):
    def test_if(self):
        block = ("if", 0, ((("num", 100),), ("back", 1)), ((("num", 200),), ("back", 1)))
        for number, answer in ((1, 100), (-1, 100), (10 ** 39, 100), (0, 200)):
            self.assertEqual(plain(program((), block), (number,), 100), ((answer,), True))

    def test_look(self):
        blocks = (((("num", 0),), ("back", 2)), ((), ("back", 2)))
        end = ("look", 1, blocks)
        self.assertEqual(plain(program((("way", 0, (NUM,), 0, ()),), end, (), (LISTS,)), (5,), 100), ((0,), True))
        steps = (("way", 0, (NUM,), 0, ()), ("way", 0, (NUM,), 1, (0, 1)))
        end = ("look", 2, (((), ("back", 0)), ((("print", 3),), ("look", 4, (((("num", 9),), ("back", 6)), ((), ("back", 0)))))))
        self.assertEqual(plain(program(steps, end, (), (LISTS,)), (5,), 100), ((5, 9), True))

    def test_ways_with_parts_of_one_kind(self):
        for way, answer in ((0, 0), (1, 1)):
            steps = (("way", 1, (NUM, NUM), way, (0,)), ("way", 0, (), way, ()))
            end = ("look", 1, (((("num", 0),), ("back", 4)), ((("num", 1),), ("back", 4))))
            self.assertEqual(plain(program(steps, end, (), (TRUTH, EITHER)), (5,), 100), ((answer,), True))

    def test_numbering_goes_on_within(self):
        end = ("if", 0, ((("num", 7), ("sum", 1, 2)), ("if", 3, (
            (("sum", 3, 2), ("print", 4)), ("back", 4)), ((), ("back", 0)))), ((), ("back", 0)))
        self.assertEqual(plain(program((("num", 1),), end), (5,), 100), ((15, 15), True))

    def test_lists(self):
        for number in range(20):
            self.assertEqual(plain(counting(), (number,), 10000), ((number, sum(range(number + 1))), True))


class BoundsTest(unittest.TestCase):
    def test_just_what_is_needed(self):
        for most in range(10):
            self.assertEqual(plain(hold(), (5,), most), ((10,), True) if most >= 6 else ((), False))

    def test_none(self):
        self.assertEqual(plain(program((), ("back", 0)), (5,), 0), ((), False))
        self.assertEqual(plain(program((), ("back", 0)), (5,), 1), ((5,), True))

    def test_printed_until_then(self):
        sample = program((("print", 0), ("nil",), ("print", 1)), ("back", 1), (), (), (NUM, NUM))
        for most, told in enumerate([(), (3,), (3,), (3, 4), (3, 4, 4), (3, 4, 4)]):
            self.assertEqual(plain(sample, (3, 4), most), (told, most >= 4))

    def test_each_step_and_each_end_counts_as_one(self):
        end = ("if", 0, ((("nil",),), ("if", 0, ((), ("back", 0)), ((), ("back", 0)))), ((), ("back", 0)))
        sample = program((("nil",),), end)
        self.assertEqual([plain(sample, (1,), most)[1] for most in range(7)], [False] * 5 + [True] * 2)
        self.assertEqual([plain(sample, (0,), most)[1] for most in range(5)], [False] * 3 + [True] * 2)

    def test_a_body_counts_besides_its_call(self):
        sample = program((("body", 1, (NUM,), (0,)),), ("back", 1), (IDENTITY,))
        self.assertEqual([plain(sample, (1,), most)[1] for most in range(5)], [False] * 3 + [True] * 2)
        sample = program((("take", 1, (NUM,), ()), ("call", 1, (0,))), ("back", 2), (IDENTITY,))
        self.assertEqual([plain(sample, (1,), most)[1] for most in range(6)], [False] * 4 + [True] * 2)

    def test_kinds_of_what_is_returned(self):
        numbers, is_over = plain(hold(), (5,), 100)
        self.assertIs(is_over, True)
        self.assertIsInstance(numbers, tuple)
        self.assertIs(plain(hold(), (5,), 0)[1], False)


class LongRunsTest(unittest.TestCase):
    def test_a_run_that_has_no_end(self):
        loop = (0, (NUM,), NUM, ((("body", 1, (), (0,)),), ("back", 1)))
        sample = program((("print", 0), ("body", 1, (), (0,))), ("back", 2), (loop,))
        for most in (10000, 99999, 100000):
            self.assertEqual(plain(sample, (5,), most), ((5,), False))

    def test_deep_calls_come_back(self):
        self.assertEqual(plain(counting(), (9000,), 100000), ((9000, 9000 * 9001 // 2), True))

    def test_deep_calls_of_functions(self):
        # Each function takes along the one ahead of it, so they are nested as deep as they are many.
        step = (0, (fun([NUM], NUM), NUM), NUM, ((("call", 0, (1,)), ("sum", 1, 2)), ("back", 3)))
        more = (0, (fun([NUM], NUM), NUM), fun([NUM], NUM), ((), ("if", 1, (
            (("num", -1), ("sum", 1, 2), ("take", 1, (), (0,)), ("body", 2, (), (4, 3))), ("back", 5)), (
            (), ("back", 0)))))
        steps = (("take", 3, (NUM,), ()), ("body", 2, (), (1, 0)), ("num", 1), ("call", 2, (3,)))
        sample = program(steps, ("back", 4), (step, more, IDENTITY))
        self.assertEqual(plain(sample, (7000,), 100000), ((7001,), True))

    def test_deep_rows_in_boxes(self):
        tree = (0, ((), (NUM, box(data(0)))))
        grow = (0, (data(0), NUM), data(0), ((), ("if", 1, (
            (("num", -1), ("sum", 1, 2), ("box", 0), ("way", 0, (), 1, (1, 4)), ("body", 1, (), (5, 3))), ("back", 6)), (
            (), ("back", 0)))))
        steps = (("way", 0, (), 0, ()), ("body", 1, (), (1, 0)))
        end = ("look", 2, (((), ("back", 0)), ((), ("back", 3))))
        self.assertEqual(plain(program(steps, end, (grow,), (tree,)), (10000,), 100000), ((1,), True))


class WrongTest(unittest.TestCase):
    def test_no_inputs(self):
        for thing in [*odd_things(), (), (5, 5), (True,), (False,), ("5",), (None,), [5], 5, ((5,),), (5, True)]:
            if thing != (0,):
                for most in (100, 0, -1, None, True):
                    with self.assertRaises(NoInputs):
                        plain(hold(), thing, most)

    def test_no_inputs_of_others(self):
        two = program((), ("back", 0), (), (), (NUM, NUM))
        for thing in ((), (1,), (1, 2, 3), (1, True), (1, None)):
            with self.assertRaises(NoInputs):
                plain(two, thing, 100)
        none = program((("num", 3),), ("back", 0), (), (), ())
        self.assertEqual(plain(none, (), 100), ((3,), True))
        with self.assertRaises(NoInputs):
            plain(none, (1,), 100)

    def test_no_number(self):
        for thing in [*odd_things(), 100001, 10 ** 39, -1, "5", [5], (5,)]:
            with self.assertRaises(NoNumber):
                plain(hold(), (5,), thing)
        self.assertEqual(plain(hold(), (5,), 100000), ((10,), True))


if __name__ == "__main__":
    unittest.main()
