"""Kindings: right ones, such with one thing changed, and other objects."""

import unittest

from barewords.kindings import is_kinding
from barewords.machine import begun
from barewords.telling import blank
from naive_telling import naive_is_kinding
from samples import A, EITHER, LISTS, NIL, NUM, TRUTH, box, boxed, data, fun, hold, odd_things, program, row, wide
from states import NUMBERS, behind, deeper, ever, lists, nested, using

PAIR = row(NUM, NUM)


class KindingCase(unittest.TestCase):
    def holds(self, sample, state, thing):
        self.assertIs(is_kinding(sample, state, thing), True)
        self.assertTrue(naive_is_kinding(sample, state, thing))

    def fails(self, sample, state, thing):
        self.assertIs(is_kinding(sample, state, thing), False)
        self.assertFalse(naive_is_kinding(sample, state, thing))


class RightTest(KindingCase):
    def test_blank(self):
        for sample, steps in ((hold(), 6), (nested(), 9), (using(), 11), (using(2), 12), (lists(), 18)):
            for many in range(steps + 1):
                state = behind(sample, (5,), many)
                self.holds(sample, state, blank(sample, state))

    def test_other_kinds_for_what_is_open(self):
        sample = hold()
        state = behind(sample, (5,), 2)
        for one in (NUM, NIL):
            for other in (NUM, NIL, PAIR):
                self.assertEqual(is_kinding(sample, state, (((), (one,)), {100: (NUMBERS, (other,))})), other != PAIR)

    def test_open_links_ask_for_cells(self):
        sample = nested()
        state = behind(sample, (5,), 5)
        self.assertEqual(state, (((0, (1,), (5, 101)), (1, (0,), (100, 5, 5))), ((100, (1, 5, 5)), (101, (1, 100, 5))), ()))
        outer = (NUMBERS, (NUMBERS,))
        for inner in (NUM, NIL):
            cells = {100: (NUMBERS, (inner,)), 101: outer}
            self.holds(sample, state, (((), (NUMBERS,)), cells))
            self.holds(sample, state, (((), (NIL,)), cells))
            self.fails(sample, state, (((), (box(NUM),)), cells))
        self.fails(sample, state, (((), (NUMBERS,)), {101: outer}))
        self.fails(sample, state, (((), (NIL,)), {101: outer}))
        self.holds(sample, state, (((), (NUMBERS,)), {100: (NUMBERS, (NUM,)), 101: (NUMBERS, (NIL,))}))
        self.holds(sample, state, (((), (NIL,)), {100: (NUMBERS, (NUM,)), 101: (NUMBERS, (NIL,))}))

    def test_cells_that_nobody_tells(self):
        sample = lists()
        state = behind(sample, (5,), 12)
        letters, cells = blank(sample, state)
        thing = data(1, NUM, box(NUM))
        more = {100: (box(NUM), ()), 101: (thing, ()), 102: (thing, ())}
        self.assertEqual(set(cells), {103, 104, 105, 106})
        told = {place: (data(0, thing), ()) for place in (103, 104, 105)}
        whole = {**told, **more, 106: (NUMBERS, (thing,))}
        frames = ((), (thing,), (thing,))
        self.holds(sample, state, (frames, whole))
        self.fails(sample, state, (letters, whole))
        self.fails(sample, state, (frames, {**whole, 106: (NUMBERS, (NIL,))}))
        for place in whole:
            self.fails(sample, state, (frames, {one: whole[one] for one in whole if one != place}))
        # Some of those cells beside blank, where no word asks for them.
        self.holds(sample, state, (letters, {**cells, 100: (box(NIL), ())}))
        self.holds(sample, state, (letters, {**cells, 100: (row(NIL), ())}))
        self.holds(sample, state, (letters, {**cells, 100: (row(NUM), ()), 102: (data(1, NIL, row(NUM)), ())}))
        self.holds(sample, state, (letters, {**cells, 101: (data(1, NUM, PAIR), ())}))
        self.holds(sample, state, (letters, {**cells, 101: (PAIR, ())}))
        self.fails(sample, state, (letters, {**cells, 101: (data(1, PAIR, NUM), ())}))
        self.fails(sample, state, (letters, {**cells, 102: (data(1, NIL, box(NUM)), ())}))

    def test_over(self):
        sample = using()
        state = behind(sample, (5,), 12)
        self.assertEqual(state[0], ())
        self.holds(sample, state, ((), {}))
        self.holds(sample, state, ((), {100: (PAIR, ())}))
        self.holds(sample, state, ((), {101: (fun([PAIR], NUM), ())}))
        self.fails(sample, state, ((), {101: (fun([NUM], NUM), ())}))
        self.fails(sample, state, ((), {102: (NUMBERS, (PAIR,))}))
        self.fails(sample, state, (((),), {}))

    def test_more_objects_than_elsewhere(self):
        kinds = (wide(40),) * 4
        sample = ever(*kinds)
        state = behind(sample, (5,), 400)
        self.assertIs(is_kinding(sample, state, (((),) + (kinds,) * 400, {})), True)
        other = kinds[:3] + (wide(39),)
        self.assertIs(is_kinding(sample, state, (((),) + (kinds,) * 399 + (other,), {})), False)
        sample = hold()
        state = behind(sample, (5,), 2)
        for kind in (wide(50000), boxed(wide(5000), 40)):
            self.assertIs(is_kinding(sample, state, (((), (NUM,)), {100: (NUMBERS, (kind,))})), False)
        sample = ever(NUM)
        self.assertIs(is_kinding(sample, behind(sample, (5,), 2), (((), (wide(50000),), (wide(50000),)), {})), False)

    def test_great_kinds_that_are_right(self):
        sample = deeper(4)
        state = behind(sample, (5,), 9)
        kinds = [NUM]
        while len(kinds) < 9:
            kinds.append(row(*[kinds[-1]] * 4))
        thing = (((),) + tuple((kind,) for kind in kinds), {})
        self.assertIs(is_kinding(sample, state, thing), True)
        self.assertIs(is_kinding(sample, state, (thing[0][:-1] + ((kinds[-2],),), {})), False)
        sample = deeper(1)
        state = behind(sample, (5,), 60)
        self.assertIs(is_kinding(sample, state, (((),) + tuple((boxed(NUM, deep),) for deep in range(60)), {})), True)
        self.assertIs(is_kinding(sample, state, (((),) + tuple((boxed(NIL, deep),) for deep in range(60)), {})), False)


class OneThingChangedTest(KindingCase):
    def setUp(self):
        self.sample = using()
        self.state = behind(self.sample, (0,), 8)
        self.letters, self.cells = blank(self.sample, self.state)
        self.assertEqual(self.letters, ((), (NIL,), (NIL,)))
        self.assertEqual(self.cells, {101: (fun([NIL], NUM), (NIL,)), 102: (NUMBERS, (NIL,))})

    def test_letters_of_frames(self):
        kinds = (NUM, PAIR, box(NIL), fun([NIL], NUM), data(0), A, ("none",), None, NIL[0], [NIL], ("nil", ()), (NIL,))
        for at in (1, 2):
            for kind in kinds:
                letters = self.letters[:at] + ((kind,),) + self.letters[at + 1:]
                self.fails(self.sample, self.state, (letters, self.cells))
            for other in ((), (NIL, NIL), [NIL], None, NIL, {0: NIL}, ((NIL,),)):
                letters = self.letters[:at] + (other,) + self.letters[at + 1:]
                self.fails(self.sample, self.state, (letters, self.cells))

    def test_frames_left_out_or_more(self):
        for letters in (self.letters[1:], self.letters[:-1], self.letters + ((),), (), ((NIL,),) + self.letters[1:],
                        list(self.letters), None, dict(enumerate(self.letters)), self.letters[::-1]):
            self.fails(self.sample, self.state, (letters, self.cells))

    def test_kinds_of_cells(self):
        for kind in (NUM, NIL, PAIR, NUMBERS, fun([NIL], NIL), fun([NIL, NIL], NUM), fun([A], NUM), A, box(NUM), ("fun", (
                NIL,)), ("fun", [NIL], NUM), ("none",), None, data(0), list(fun([NIL], NUM)), True, "fun"):
            self.fails(self.sample, self.state, (self.letters, {**self.cells, 101: (kind, (NIL,))}))

    def test_letters_of_functions(self):
        for kinds in ((), (NUM,), (PAIR,), (A,), (NIL, NIL), [NIL], None, NIL, (None,), {0: NIL}, ("nil",), ([],)):
            self.fails(self.sample, self.state, (self.letters, {**self.cells, 101: (fun([NIL], NUM), kinds)}))
        for pair in (fun([NIL], NUM), (fun([NIL], NUM),), (fun([NIL], NUM), (NIL,), ()), [fun([NIL], NUM), (NIL,)], None,
                     (), ((NIL,), fun([NIL], NUM))):
            self.fails(self.sample, self.state, (self.letters, {**self.cells, 101: pair}))

    def test_cells_left_out_or_more(self):
        for place in self.cells:
            self.fails(self.sample, self.state, (self.letters, {
                one: self.cells[one] for one in self.cells if one != place}))
        for place in (0, -1, 99, 103, 10 ** 39, "100", None, (100,), b"100"):
            self.fails(self.sample, self.state, (self.letters, {**self.cells, place: (PAIR, ())}))
        self.holds(self.sample, self.state, (self.letters, {**self.cells, 100: (PAIR, ())}))
        for kind in (row(NUM), row(NUM, NUM, NUM), box(NUM), data(0), fun([NUM], NUM), row(PAIR, NUM)):
            self.fails(self.sample, self.state, (self.letters, {**self.cells, 100: (kind, ())}))
        self.fails(self.sample, self.state, (self.letters, {**self.cells, 100: (PAIR, (NUM,))}))

    def test_cells_that_are_no_dict(self):
        for cells in (list(self.cells.items()), tuple(self.cells.items()), None, list(self.cells), (), [], 0, True):
            self.fails(self.sample, self.state, (self.letters, cells))

    def test_what_waits_tell(self):
        self.fails(self.sample, self.state, (((), (NIL,), (NUM,)), self.cells))
        self.fails(self.sample, self.state, (((), (NUM,), (NIL,)), self.cells))
        self.fails(self.sample, self.state, (((), (NUM,), (NUM,)), self.cells))
        cells = {101: (fun([NUM], NUM), (NUM,)), 102: (NUMBERS, (NUM,))}
        self.holds(self.sample, self.state, (((), (NUM,), (NUM,)), cells))
        self.fails(self.sample, self.state, (((), (NUM,), (NIL,)), cells))
        cells = {100: (PAIR, ()), 101: (fun([PAIR], NUM), (PAIR,)), 102: (NUMBERS, (PAIR,))}
        self.holds(self.sample, self.state, (((), (PAIR,), (PAIR,)), cells))
        self.fails(self.sample, self.state, (((), (PAIR,), (NIL,)), cells))
        self.fails(self.sample, self.state, (((), (PAIR,), (PAIR,)), {**cells, 100: (row(NUM, NIL), ())}))

    def test_what_body_steps_tell(self):
        sample = ever(NUM, NIL)
        state = behind(sample, (5,), 2)
        self.holds(sample, state, (((), (NUM, NIL), (NUM, NIL)), {}))
        for letters in (((), (NUM, NIL), (NIL, NUM)), ((), (NIL, NUM), (NIL, NUM)), ((), (NUM, NUM), (NUM, NUM)),
                        ((), (NUM, NIL), (NUM, NUM))):
            self.fails(sample, state, (letters, {}))


class CellsTest(KindingCase):
    """Cells of all sorts that no word asks for, so that any form may be tried."""

    def setUp(self):
        self.sample = program((("body", 2, (), (0,)),), ("back", 0), [
                (1, (NUM, A), A, ((), ("back", 1))),
                (0, (NUM,), NIL, ((
                    ("row", (0, 0)), ("way", 0, (NUM,), 0, ()), ("way", 0, (NUM,), 1, (0, 2)), ("nil",),
                    ("way", 1, (NUM, NIL), 1, (4,)), ("box", 0), ("take", 1, (NUM,), (0,)), ("way", 2, (), 1, ())), (
                        "back", 4)))], (LISTS, EITHER, TRUTH))
        self.state = behind(self.sample, (1,), 10)
        self.assertEqual(self.state[1], (
            (100, (1, 1)), (101, (0,)), (102, (1, 1, 101)), (103, (1, 0)), (104, (1,)), (105, (1, 1)), (106, (1,))))
        self.assertEqual(len(self.state[0]), 1)

    def pair(self, place, kind, kinds=(), is_right=True, **more):
        cells = {place: (kind, kinds), **{int(name[1:]): pair for name, pair in more.items()}}
        (self.holds if is_right else self.fails)(self.sample, self.state, (((),), cells))

    def test_rows(self):
        for kind in (PAIR, row(NIL, NUM)):
            for place in (100, 103, 105):
                self.pair(place, kind)
        self.pair(101, row(NUM))
        self.pair(102, row(NUM, NIL, NUM))
        for place, kind in ((100, row(NUM)), (100, row(NUM, NUM, NUM)), (101, PAIR), (102, PAIR)):
            self.pair(place, kind, (), False)
        self.pair(100, PAIR, (NUM,), False)

    def test_ways(self):
        for kind in (NUM, NIL, PAIR):
            self.pair(101, data(0, kind))
        for inner in (NUM, NIL):
            self.pair(102, data(0, inner), n101=(data(0, inner), ()))
            self.pair(103, data(1, PAIR, inner))
        self.pair(102, data(0, NUM), (), False)
        self.pair(102, data(0, NUM), (), False, n101=(data(0, NIL), ()))
        self.pair(102, data(0, NUM), (), False, n101=(row(NUM), ()))
        self.pair(103, data(1, NUM, PAIR), (), False)
        self.pair(104, data(2))
        self.pair(106, data(2))
        for place, kind in ((100, data(2)), (102, data(2)), (104, data(0, NUM)), (104, data(1, NUM, NUM)), (100, data(0, NUM)),
                            (106, data(3)), (106, data(99)), (106, data(2, NUM)), (101, data(0)), (101, data(0, NUM, NUM)),
                            (103, data(1, NUM)), (103, data(1, NUM, NUM, NUM))):
            self.pair(place, kind, (), False)
        self.pair(101, data(0, NUM), (NUM,), False)

    def test_a_way_beyond(self):
        state = (self.state[0], ((5, (-1,)), (6, (2,)), (7, (2, 1)), (8, ())) + self.state[1], ())
        for place in (5, 6, 7, 8):
            for kind in (data(0, NUM), data(2), data(1, NUM, NUM)):
                self.fails(self.sample, state, (((),), {place: (kind, ())}))
        self.fails(self.sample, state, (((),), {8: (row(NUM), ())}))
        self.fails(self.sample, state, (((),), {8: (box(NUM), ())}))
        for kind in (NUM, NIL, A, ("letter", 1)):
            self.fails(self.sample, state, (((),), {8: (kind, ())}))
        self.holds(self.sample, state, (((),), {5: (box(NUM), ()), 7: (PAIR, ())}))

    def test_functions(self):
        for kind in (NUM, NIL, PAIR):
            self.pair(105, fun([kind], kind), (kind,))
            self.pair(104, fun([NUM, kind], kind), (kind,))
        for kind, kinds in ((fun([NUM], NIL), (NUM,)), (fun([NUM], NUM), (NIL,)), (fun([NUM, NUM], NUM), (NUM,)),
                            (fun([NUM], NUM), ()), (fun([NUM], NUM), (NUM, NUM))):
            self.pair(105, kind, kinds, False)
        self.pair(101, fun([NUM], NUM), (), True)
        self.pair(101, fun([NUM], NUM), (NUM,), False)
        self.pair(101, fun([NIL], NUM), (), False)
        self.pair(102, fun([NUM], NUM), (NUM,), False)
        self.pair(102, fun([NUM], NUM), (NIL,), False)

    def test_a_body_beyond(self):
        state = (self.state[0], ((4, (-1,)), (5, (-1, 1)), (6, (3, 1)), (7, (9,)), (8, ())) + self.state[1], ())
        for place in (4, 5, 6, 7, 8):
            for kinds in ((), (NUM,)):
                for kind in (fun([NUM], NUM), fun([NUM], NIL)):
                    self.fails(self.sample, state, (((),), {place: (kind, kinds)}))
        self.holds(self.sample, state, (((),), {6: (PAIR, ())}))

    def test_what_took_more_than_there_is(self):
        state = (self.state[0], ((5, (2, 1, 1, 1)), (6, (1, 1, 1)), (7, (1, 1, 1, 1)), (8, (2, 1))) + self.state[1], ())
        for place in (5, 6, 7, 8):
            for kinds in ((), (NUM,)):
                for kind in (fun([NUM], NUM), fun([NUM], NIL)):
                    self.fails(self.sample, state, (((),), {place: (kind, kinds)}))
        self.holds(self.sample, state, (((),), {6: (row(NUM, NUM, NUM), ())}))

    def test_boxes(self):
        for kind in (NUM, NIL):
            self.pair(104, box(kind))
            self.pair(101, box(kind))
        self.pair(104, box(PAIR), (), False)
        self.pair(103, box(NUM), (), False)
        self.pair(104, box(NUM), (NUM,), False)

    def test_cells_that_hold_themselves(self):
        state = (self.state[0], ((5, (5,)), (6, (7,)), (7, (6,))) + self.state[1], ())
        self.holds(self.sample, state, (((),), {5: (box(NUM), ())}))
        self.fails(self.sample, state, (((),), {5: (box(box(NUM)), ())}))
        self.holds(self.sample, state, (((),), {6: (box(box(NUM)), ()), 7: (box(NUM), ())}))
        self.fails(self.sample, state, (((),), {6: (box(box(NUM)), ()), 7: (row(NUM), ())}))


class OddTest(KindingCase):
    def test_odd_things(self):
        sample = using()
        state = behind(sample, (5,), 7)
        letters, cells = blank(sample, state)
        self.holds(sample, state, (letters, cells))
        start = begun(sample, (5,))
        for thing in odd_things():
            for one in (thing, (thing,), [thing], (thing, thing), (letters, thing), (thing, cells), [letters, cells],
                        (letters, cells, thing), ((thing, letters[1]), cells), (((), thing), cells),
                        (((), (thing,)), cells), (letters, {**cells, 101: thing}),
                        (letters, {**cells, 101: (thing, ())}), (letters, {**cells, 100: (("row", (thing, NUM)), ())}),
                        (letters, {**cells, 100: (("row", thing), ())}), (letters, {**cells, 102: (NUMBERS, (thing,))}),
                        (letters, {100: thing}), (letters, {100: (thing, thing)}), (((), (("row", thing),)), cells)):
                if one not in [(((), (PAIR,)), cells)]:
                    self.assertIs(is_kinding(sample, state, one), False)
            if type(thing) is not tuple or thing:
                self.assertIs(is_kinding(sample, state, (letters, {**cells, 101: (fun([PAIR], NUM), thing)})), False)
            if type(thing) is not dict or thing:
                self.assertIs(is_kinding(sample, start, (((),), thing)), False)
            if type(thing) is not tuple or thing != ((),):
                self.assertIs(is_kinding(sample, start, (thing, {})), False)
            try:
                hash(thing)
            except TypeError:
                continue
            if type(thing) is not bool:
                self.assertIs(is_kinding(sample, state, (letters, {**cells, thing: (PAIR, ())})), False)

    def test_flags_are_no_numbers(self):
        sample = ever(row(NUM))
        state = behind(sample, (5,), 2)
        self.holds(sample, state, (((), (row(NUM),), (row(NUM),)), {}))
        self.fails(sample, state, (((), (row(("data", True, ())),), (row(("data", True, ())),)), {}))
        one = program((("way", 1, (), 0, ()),), ("back", 0), book=(TRUTH, TRUTH))
        state = behind(one, (5,), 1)
        self.holds(one, state, (((),), {100: (data(1), ())}))
        self.fails(one, state, (((),), {100: (data(True), ())}))
        self.fails(one, state, (((),), {100: (data(0), ())}))

    def test_the_thing_stays(self):
        sample = lists()
        state = behind(sample, (5,), 12)
        letters, cells = blank(sample, state)
        kept = repr((letters, cells))
        is_kinding(sample, state, (letters, cells))
        self.assertEqual(repr((letters, cells)), kept)
        short = {103: cells[103]}
        self.fails(sample, state, (letters, short))
        self.assertEqual(list(short), [103])

    def test_deep_things(self):
        sample = hold()
        state = behind(sample, (5,), 2)
        thing = NUM
        for _ in range(3000):
            thing = box(thing)
        self.assertIs(is_kinding(sample, state, (((), (thing,)), {100: (NUMBERS, (NIL,))})), False)
        self.assertIs(is_kinding(sample, state, (((), (NIL,)), {100: (NUMBERS, (thing,))})), False)
        self.assertIs(is_kinding(sample, state, (((), (NIL,)), {100: (thing, ())})), False)


if __name__ == "__main__":
    unittest.main()
