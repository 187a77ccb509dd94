"""Telling: met cells, told and open spots, and the two kindings, of states made by hand."""

import unittest

from barewords.errors import TooMany
from barewords.kindings import is_kinding
from barewords.kinds import filled
from barewords.machine import begun, next_state, ran
from barewords.programs import Program
from barewords.telling import blank, general, met, open_spots, told
from naive import size
from naive_telling import naive_is_kinding
from samples import A, B, EITHER, LISTS, NIL, NUM, TRUTH, box, boxed, data, fun, hold, letter, main, program, row
from states import HOLD, NUMBERS, PLACERS, behind, deeper, ever, like_numbers, lists, nested, upwards, using

PAIR = row(NUM, NUM)


class TellingCase(unittest.TestCase):
    def check(self, sample, state, heads, spots, cells, kinding):
        """All that is told; heads has for frames and met cells the heads told, None for what is open or no spot."""
        self.assertEqual(told(sample, state), heads)
        self.assertEqual(open_spots(sample, state), spots)
        self.assertEqual(met(sample, state), cells)
        self.assertEqual(general(sample, state), kinding)
        letters, kinds = kinding
        nils = (NIL,) * 20
        self.assertEqual(blank(sample, state), (
            tuple(tuple(filled(kind, nils) for kind in frame) for frame in letters),
            {place: (filled(kind, nils), tuple(filled(one, nils) for one in more))
             for place, (kind, more) in kinds.items()}))
        self.assertIs(is_kinding(sample, state, blank(sample, state)), True)


def heads_of(pile=(), heap=()):
    """The dict from spots to heads; pile has the words for heads frame by frame, heap for cells, - for none."""
    found = {}
    for frame, words in enumerate(pile):
        found.update({("pile", frame, at): head for at, head in enumerate(words.split()) if head != "-"})
    for place, words in heap:
        found.update({("heap", place, at): head for at, head in enumerate(words.split()) if head != "-"})
    return found


class HandMadeTest(TellingCase):
    def test_begun(self):
        self.check(hold(), begun(hold(), (5,)), heads_of(["num"]), [], (), (((),), {}))
        one = program((("num", 1),), ("back", 0), places=())
        self.check(one, begun(one, ()), {}, [], (), (((),), {}))

    def test_over(self):
        for sample, steps in ((hold(), 6), (nested(), 9), (program((), ("back", 0)), 1)):
            state = behind(sample, (5,), steps)
            self.assertEqual(state[0], ())
            self.check(sample, state, {}, [], (), ((), {}))

    def test_what_nobody_tells(self):
        state = behind(hold(), (5,), 2)
        self.check(hold(), state, heads_of(["num fun", "- num num"], [(100, "- - num")]), [
            ("heap", 100, 1), ("pile", 1, 0)], (100,), (((), (A,)), {100: (NUMBERS, (B,))}))

    def test_a_box_of_what_nobody_tells(self):
        state = behind(hold(), (5,), 4)
        self.assertEqual(state[0][1], (1, (2,), (5, 5, 5, 101, 10)))
        self.check(hold(), state, heads_of(["num fun", "- num num box num"], [(100, "- - num")]), [
            ("heap", 100, 1), ("heap", 101, 0), ("pile", 1, 0)], (100, 101), (
                ((), (A,)), {100: (NUMBERS, (B,)), 101: (box(A), ())}))

    def test_nested_holders(self):
        sample = nested()
        state = behind(sample, (5,), 3)
        self.check(sample, state, heads_of(["num", "num fun fun"], [(100, "- - num"), (101, "- - num")]), [
            ("heap", 100, 1), ("heap", 101, 1)], (100, 101), (
                ((), ()), {100: (NUMBERS, (A,)), 101: (NUMBERS, (B,))}))

    def test_nested_holders_whose_maker_is_gone(self):
        sample = nested()
        state = behind(sample, (5,), 4)
        self.check(sample, state, heads_of(["num fun"], [(101, "- - num")]), [("heap", 101, 1)], (101,), (
            ((),), {101: (NUMBERS, (A,))}))
        state = behind(sample, (5,), 5)
        self.check(sample, state, heads_of(["num fun", "- num num"], [(101, "- - num")]), [
            ("heap", 101, 1), ("pile", 1, 0)], (101,), (((), (A,)), {101: (NUMBERS, (B,))}))

    def test_a_function_tells_what_it_is_of(self):
        sample = using()
        state = behind(sample, (5,), 7)
        self.check(sample, state, heads_of(["num fun", "row fun num"], [(100, "num num"), (102, "- row fun")]), [], (
            100, 101, 102), (((), (PAIR,)), {
                100: (PAIR, ()), 101: (fun([PAIR], NUM), ()), 102: (NUMBERS, (PAIR,))}))

    def test_a_function_of_a_letter_tells_nothing(self):
        sample = using()
        state = behind(sample, (0,), 7)
        self.check(sample, state, heads_of(["num fun", "- fun num"], [(101, "- num"), (102, "- - fun")]), [
            ("heap", 102, 1), ("pile", 1, 0)], (101, 102), (((), (A,)), {
                101: (fun([A], NUM), (A,)), 102: (NUMBERS, (A,))}))

    def test_a_frame_above_tells_a_call_step(self):
        sample = using()
        state = behind(sample, (5,), 8)
        self.assertEqual([frame[0] for frame in state[0]], [0, 1, 2])
        self.check(sample, state, heads_of(["num fun", "row fun num", "row"], [
            (100, "num num"), (102, "- row fun")]), [], (100, 101, 102), (((), (PAIR,), ()), {
                100: (PAIR, ()), 101: (fun([PAIR], NUM), ()), 102: (NUMBERS, (PAIR,))}))
        state = behind(sample, (0,), 8)
        self.check(sample, state, heads_of(["num fun", "- fun num", "num -"], [(101, "- num"), (102, "- - fun")]), [
            ("heap", 102, 1), ("pile", 1, 0), ("pile", 2, 1)], (101, 102), (((), (A,), (A,)), {
                101: (fun([A], NUM), (A,)), 102: (NUMBERS, (A,))}))

    def test_lists_of_what_nobody_tells(self):
        sample = lists()
        state = behind(sample, (5,), 12)
        kinds = (data(0, A), ())
        self.check(sample, state, heads_of(["num fun", "data num - data", "data num"], [
            (104, "- - data"), (105, "- - data"), (106, "- data")]), [
                ("heap", 104, 1), ("heap", 105, 1), ("pile", 1, 2)], (103, 104, 105, 106), (((), (A,), (A,)), {
                    103: kinds, 104: kinds, 105: kinds, 106: (NUMBERS, (A,))}))

    def test_lists_while_their_kind_is_told(self):
        sample = lists()
        state = behind(sample, (5,), 8)
        thing = data(1, NUM, box(NUM))
        kinds = (data(0, thing), ())
        self.check(sample, state, heads_of(["num", "num box data data data data data fun"], [
            (100, "num"), (101, "- num"), (102, "- box"), (104, "- data data"), (105, "- data data"),
            (106, "- data")]), [], tuple(range(100, 107)), (((), ()), {
                100: (box(NUM), ()), 101: (thing, ()), 102: (thing, ()), 103: kinds, 104: kinds, 105: kinds,
                106: (NUMBERS, (thing,))}))

    def test_choices_with_letters(self):
        sample = program((
            ("nil",), ("box", 1), ("way", 0, (NUM, box(("nil",))), 1, (2,)), ("way", 0, (("nil",), NUM), 0, (1,)),
            ("way", 1, (), 1, ())), ("back", 0), book=(EITHER, TRUTH))
        state = behind(sample, (5,), 5)
        self.check(sample, state, heads_of(["num - box data data data"], [(101, "- box")]), [
            ("heap", 100, 0), ("heap", 102, 1), ("pile", 0, 1)], (100, 101, 102, 103), (((),), {
                100: (box(NIL), ()), 101: (data(0, NUM, box(NIL)), ()), 102: (data(0, NIL, NUM), ()),
                103: (data(1), ())}))

    def test_nothing_is_open(self):
        sample = program((("nil",), ("row", (1, 0, 1)), ("print", 0), ("part", 2, 0)), ("back", 0))
        state = behind(sample, (5,), 4)
        self.check(sample, state, heads_of(["num - row - -"], [(100, "- num -")]), [
            ("heap", 100, 0), ("heap", 100, 2), ("pile", 0, 1), ("pile", 0, 3), ("pile", 0, 4)], (100,), (
                ((),), {100: (row(NIL, NUM, NIL), ())}))

    def test_letters_are_numbered_as_they_come_first(self):
        sample = Program((), (
            main((("body", 3, (), (0,)), ("call", 1, (0,))), ("back", 2)),
            (4, (letter(1), letter(3), fun([letter(2)], letter(0)), NUM), NUM, ((
                ("row", (1, 2)), ("box", 0)), ("back", 3))),
            (2, (A, B), A, ((), ("back", 0))),
            (0, (NUM,), NUMBERS, ((
                ("row", (0, 0)), ("take", 2, (PAIR, NUM), (1,)), ("box", 0), ("nil",),
                ("take", 1, (PAIR, box(NUM), NUM, NIL), (3, 4, 2))), ("back", 5)))))
        state = behind(sample, (5,), 8)
        self.assertEqual(state[0], ((0, (1,), (5, 103)), (1, (0,), (102, 0, 101, 5))))
        state = next_state(sample, next_state(sample, state, 0), -9)
        self.check(sample, state, heads_of(["num fun", "- - fun num row box"], [(0, "- fun"), (103, "- - - fun")]), [
            ("heap", -9, 0), ("heap", 0, 0), ("heap", 101, 1), ("heap", 103, 1), ("heap", 103, 2), ("pile", 1, 0),
            ("pile", 1, 1)], (-9, 0, 101, 103), (((), (letter(0), letter(1), letter(2), letter(3))), {
                -9: (box(letter(1)), ()), 0: (row(letter(3), fun([letter(2)], letter(0))), ()),
                101: (fun([letter(2)], letter(0)), (letter(0), letter(2))),
                103: (NUMBERS, (letter(0), letter(4), letter(2), letter(5)))}))

    def test_a_letter_without_a_place(self):
        sample = ever(NUM, PAIR, box(NIL))
        self.check(sample, behind(sample, (5,), 2), heads_of(["num"]), [], (), (
            ((), (NUM, PAIR, box(NIL)), (NUM, PAIR, box(NIL))), {}))

    def test_places_that_look_like_numbers(self):
        sample = using()
        state = behind(sample, (1,), 7, like_numbers)
        self.assertEqual(state, (((0, (1,), (1, 2)), (1, (0,), (0, 1, 1))), ((0, (1, 1)), (1, (2,)), (2, (1, 0, 1))), ()))
        self.check(sample, state, heads_of(["num fun", "row fun num"], [(0, "num num"), (2, "- row fun")]), [], (0, 1, 2), (
            ((), (PAIR,)), {0: (PAIR, ()), 1: (fun([PAIR], NUM), ()), 2: (NUMBERS, (PAIR,))}))

    def test_one_cell_in_many_words_tells_for_all(self):
        # A row of numbers that two frames have, the one by a letter: by the other one the letter is told.
        sample = Program((), (
            main((("row", (0, 0)), ("box", 1), ("take", 1, (PAIR,), (2, 2)), ("call", 3, (0,))), ("back", 4)),
            (1, (box(A), box(A), NUM), NUM, ((("open", 0),), ("back", 2)))))
        state = behind(sample, (5,), 5)
        self.check(sample, state, heads_of(["num row box fun", "box box num row"], [
            (100, "num num"), (101, "row"), (102, "- box box")]), [], (100, 101, 102), (((), (PAIR,)), {
                100: (PAIR, ()), 101: (box(PAIR), ()), 102: (NUMBERS, (PAIR,))}))

    def test_letters_that_are_one_before_they_are_told(self):
        # The row that was in the box is in the last frame alone, by a letter that is one with that of the frame below.
        for opened in (0, 3):
            taker = fun([A], NUM)
            steps = (("box", 1),) + (("open", 4),) * opened + (("body", 2, (A,), (0, 1, 2)),)
            sample = Program((), (
                main((("body", 3, (), (0,)), ("call", 1, (0,))), ("back", 2)),
                (1, (box(A), A, taker, NUM), NUM, (steps, ("back", 5 + opened))),
                (1, (box(A), A, taker), NUM, ((("open", 0), ("put", 0, 1), ("call", 2, (3,))), ("back", 5))),
                (0, (NUM,), NUMBERS, ((
                    ("row", (0, 0)), ("row", (0, 0)), ("box", 1), ("take", 4, (), ()), ("take", 1, (PAIR,), (3, 2, 4))), (
                        "back", 5))),
                (0, (PAIR,), NUM, ((("part", 0, 0),), ("back", 1)))))
            state = behind(sample, (5,), 8 + 2 + opened + 2)
            self.assertEqual(state[0][2], (2, (2,), (102, 101, 103, 100, 0)))
            frames = ["num fun", "box row fun num box" + " row" * opened, "box row fun row -"]
            self.check(sample, state, heads_of(frames, [
                (100, "num num"), (101, "num num"), (102, "row"), (104, "- box row fun"), (105, "row")]), [
                    ("pile", 2, 4)], tuple(range(100, 106)), (((), (PAIR,), (PAIR,)), {
                        100: (PAIR, ()), 101: (PAIR, ()), 102: (box(PAIR), ()), 103: (fun([PAIR], NUM), ()),
                        104: (NUMBERS, (PAIR,)), 105: (box(PAIR), ())}))

    def test_boxes_that_hold_themselves_in_functions(self):
        sample = Program((), (
            main((("take", 1, (), ()), ("box", 1), ("take", 2, (), (2,)), ("put", 2, 3), ("call", 3, (0,))), ("back", 5)),
            (0, (NUM,), NUM, ((), ("back", 0))),
            (0, (box(NUMBERS), NUM), NUM, ((("open", 0), ("call", 2, (1,))), ("back", 3)))))
        state = behind(sample, (5,), 19)
        self.assertEqual(len(state[0]), 9)
        self.check(sample, state, heads_of(["num fun box fun -"] + ["box num fun"] * 7 + ["box num"], [
            (101, "fun"), (102, "- box")]), [("pile", 0, 4)], (100, 101, 102), (((),) * 9, {
                100: (NUMBERS, ()), 101: (box(NUMBERS), ()), 102: (NUMBERS, ())}))


class PlacersTest(unittest.TestCase):
    def test_unlike_placers_tell_the_same_but_for_places(self):
        for sample in (hold(), nested(), using(), using(2), lists()):
            for steps in range(17):
                answers = []
                for placer in PLACERS:
                    order = []

                    def noted(places):
                        order.append(placer(places))
                        return order[-1]
                    state = ran(sample, begun(sample, (5,)), noted, steps)
                    names = {place: at for at, place in enumerate(order)}

                    def named(spot):
                        return spot if spot[0] == "pile" else ("heap", names[spot[1]], spot[2])
                    letters, cells = blank(sample, state)
                    answers.append((
                        {named(spot): head for spot, head in told(sample, state).items()},
                        sorted(map(named, open_spots(sample, state))),
                        sorted(names[place] for place in met(sample, state)),
                        letters, {names[place]: pair for place, pair in cells.items()}))
                for answer in answers:
                    self.assertEqual(answer, answers[0])


class TooManyTest(unittest.TestCase):
    def too_many(self, sample, state):
        for function in (blank, general):
            with self.assertRaises(TooMany) as caught:
                function(sample, state)
            self.assertEqual(caught.exception.most, 20000)

    def of_size(self, many):
        """A closed kind of so many kinds, not deep."""
        rest = many - 1
        if rest <= 4:
            return row(*[NUM] * rest) if rest else NUM
        parts = [rest // 4] * 3
        return row(*[self.of_size(part) for part in parts + [rest - sum(parts)]])

    def beside_frames(self, steps, more):
        """How many kinds are in blank of the state behind these steps of body 0, with 124 frames of 160 kinds above."""
        kinds = (self.of_size(40),) * 4
        letters = tuple(letter(at) for at in range(4))
        sample = Program((), (
            main(steps + (("body", 1, kinds, ()),), ("back", len(steps) + 1)),
            (4, (), NUM, ((("body", 1, letters, ()),), ("back", 0))), *more))
        state = behind(sample, (5,), len(steps) + 124)
        letters, cells = blank(sample, state)
        self.assertEqual(letters, ((),) + (kinds,) * 124)
        self.assertIs(is_kinding(sample, state, (letters, cells)), True)
        return 124 * 160 + sum(size(kind) + sum(map(size, more)) for kind, more in cells.values())

    def test_20000_kinds(self):
        kinds = (self.of_size(40),) * 4
        self.assertEqual(size(kinds[0]), 40)
        sample = ever(*kinds)
        state = behind(sample, (5,), 125)
        self.assertEqual(blank(sample, state), (((),) + (kinds,) * 125, {}))
        self.assertEqual(general(sample, state), blank(sample, state))
        self.assertIs(is_kinding(sample, state, blank(sample, state)), True)
        self.too_many(sample, behind(sample, (5,), 126))

    def test_20001_kinds(self):
        kinds = (self.of_size(40), self.of_size(40), self.of_size(32), NUM)
        self.assertEqual(sum(map(size, kinds)), 113)
        sample = ever(*kinds)
        self.too_many(sample, behind(sample, (5,), 177))
        self.assertEqual(blank(sample, behind(sample, (5,), 176))[0][-1], kinds)

    def test_kinds_of_cells_count(self):
        rows = (("row", (0, 0, 0, 0)),)
        boxes = (("box", 0),)
        self.assertEqual(self.beside_frames(rows * 32, ()), 20000)
        self.assertEqual(self.beside_frames(rows * 30 + boxes * 5, ()), 20000)
        with self.assertRaises(TooMany):
            self.beside_frames(rows * 31 + boxes * 3, ())

    def test_kinds_of_the_letters_of_functions_count(self):
        one = (("take", 2, (self.of_size(40),), ()),)
        two = (("take", 3, (NUM, NUM), ()),)
        more = ((1, (NUM,), NUM, ((), ("back", 0))), (2, (NUM,), NUM, ((), ("back", 0))))
        self.assertEqual(self.beside_frames(one * 40, more), 20000)
        self.assertEqual(self.beside_frames(one * 35 + two * 4, more), 20000)
        with self.assertRaises(TooMany):
            self.beside_frames(one * 39 + two, more)

    def test_25_deep(self):
        sample = deeper(1)
        state = behind(sample, (5,), 25)
        self.assertEqual(blank(sample, state)[0][1:], tuple((boxed(NUM, deep),) for deep in range(25)))
        self.assertEqual(general(sample, state), blank(sample, state))
        state = behind(sample, (5,), 26)
        self.too_many(sample, state)
        self.assertEqual(told(sample, state), {("pile", 0, 0): "num"})
        self.assertEqual(open_spots(sample, state), [])
        self.assertEqual(met(sample, state), ())

    def test_cells_25_deep(self):
        sample = Program((), (
            main((("body", 1, (NUM,), (0,)),), ("back", 1)),
            (1, (A,), NUM, ((("box", 0), ("body", 1, (box(A),), (1,))), ("back", 2)))))
        state = behind(sample, (5,), 48)
        self.assertEqual(state[0][-1], (1, (1,), (122, 123)))
        self.assertEqual(blank(sample, state)[1][123], (boxed(NUM, 24), ()))
        self.assertEqual(told(sample, state)["heap", 100, 0], "num")
        state = behind(sample, (5,), 49)
        self.assertEqual(blank(sample, state)[0][-1], (boxed(NUM, 24),))
        state = behind(sample, (5,), 50)
        self.too_many(sample, state)
        self.assertEqual(told(sample, state)["heap", 124, 0], "box")
        self.assertEqual(met(sample, state), tuple(range(100, 125)))

    def test_kinds_beyond_count(self):
        sample = deeper(4)
        state = behind(sample, (5,), 7)
        letters = blank(sample, state)[0]
        self.assertEqual([size(kinds[0]) for kinds in letters[1:]], [1, 5, 21, 85, 341, 1365, 5461])
        state = behind(sample, (5,), 8)
        self.too_many(sample, state)
        self.assertEqual(told(sample, state), {("pile", 0, 0): "num"})
        state = behind(sample, (5,), 3000)
        self.too_many(sample, state)
        self.assertEqual(told(sample, state), {("pile", 0, 0): "num"})
        self.assertEqual(met(sample, state), ())

    def test_no_recursion(self):
        sample = Program((), (
            main((("body", 1, (NUM,), (0,)),), ("back", 1)),
            (1, (A,), NUM, ((("box", 0), ("body", 1, (box(A),), (1,))), ("back", 2)))))
        state = ran(sample, begun(sample, (5,)), upwards, 4001)
        heads = told(sample, state)
        self.assertEqual(len(met(sample, state)), 2000)
        self.assertEqual(heads["heap", 100, 0], "num")
        self.assertEqual(heads["heap", 2099, 0], "box")
        self.assertEqual(open_spots(sample, state), [])
        self.too_many(sample, state)

    def test_kinds_beyond_count_that_words_have(self):
        inner = row(A, A, A, A)
        sample = Program((), (
            main((("body", 1, (NUM,), (0,)),), ("back", 1)),
            (1, (A,), NUM, ((("row", (0, 0, 0, 0)), ("row", (0, 0, 0, 0)), ("body", 1, (inner,), (1,))), ("back", 3)))))
        state = ran(sample, begun(sample, (5,)), upwards, 3001)
        heads = told(sample, state)
        self.assertEqual(len(met(sample, state)), 2000)
        self.assertEqual([heads["heap", 100, 0], heads["heap", 101, 3], heads["heap", 2099, 2]], ["num", "num", "row"])
        self.too_many(sample, state)


class NewTest(unittest.TestCase):
    def test_what_is_returned_is_new(self):
        sample = using()
        state = behind(sample, (0,), 7)
        kept = repr((sample.book, sample.bodies, state))
        for function in (told, open_spots):
            one = function(sample, state)
            one.clear()
            self.assertNotEqual(function(sample, state), one)
        for function in (blank, general):
            one = function(sample, state)
            one[1].clear()
            self.assertEqual(set(function(sample, state)[1]), {101, 102})
        self.assertIs(type(met(sample, state)), tuple)
        self.assertEqual(repr((sample.book, sample.bodies, state)), kept)

    def test_both_say_what_a_kinding_is(self):
        for sample in (hold(), nested(), using(), lists()):
            for steps in range(17):
                state = ran(sample, begun(sample, (5,)), upwards, steps)
                self.assertTrue(naive_is_kinding(sample, state, blank(sample, state)))


if __name__ == "__main__":
    unittest.main()
