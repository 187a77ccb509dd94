"""Sources: what they are, what lots of them tell, and who tells a spot."""

import unittest

from barewords.errors import NoLot, NoSource, NoSpot, TooMany
from barewords.machine import begun, ran
from barewords.programs import Program
from barewords.sources import is_teller, losses, sources, told_by, tellers
from barewords.telling import open_spots, told
from naive_telling import naive_sources, naive_tellers, naive_told_by
from samples import A, NUM, box, fun, hold, main, odd_things, program
from states import HOLD, NUMBERS, behind, ever, lists, nested, upwards, using


def lots_of(many):
    """All lots of numbers below this one."""
    return [tuple(at for at in range(many) if bits >> at & 1) for bits in range(2 ** many)]


class SourcesTest(unittest.TestCase):
    def test_sources(self):
        sample = using()
        self.assertEqual(sources(sample, begun(sample, (5,))), [])
        self.assertEqual(sources(sample, behind(sample, (5,), 7)), [
            ("cell", 100), ("cell", 101), ("cell", 102), ("wait", 0)])
        self.assertEqual(sources(sample, behind(sample, (5,), 8)), [
            ("cell", 100), ("cell", 101), ("cell", 102), ("wait", 0), ("wait", 1)])
        self.assertEqual(sources(sample, behind(sample, (0,), 8)), [
            ("cell", 101), ("cell", 102), ("wait", 0), ("wait", 1)])
        self.assertEqual(sources(sample, behind(sample, (0,), 11)), [])

    def test_sources_are_ascending(self):
        sample = program((("row", (0, 0)),) * 4, ("back", 0))
        places = [3, -10 ** 39, 10 ** 39, 0]
        state = ran(sample, begun(sample, (5,)), lambda there: places[len(there)], 4)
        self.assertEqual(sources(sample, state), [("cell", place) for place in sorted(places)])
        state = behind(ever(), (5,), 12)
        self.assertEqual(sources(ever(), state), [("wait", frame) for frame in range(12)])

    def test_sources_are_new(self):
        sample = using()
        state = behind(sample, (5,), 7)
        sources(sample, state).clear()
        self.assertEqual(len(sources(sample, state)), 4)


class ToldByTest(unittest.TestCase):
    def test_none_and_all(self):
        for sample, most in ((hold(), 6), (nested(), 9), (using(), 12), (using(2), 13), (lists(), 20)):
            for steps in range(most + 1):
                state = ran(sample, begun(sample, (5,)), upwards, steps)
                many = len(sources(sample, state))
                self.assertEqual(told_by(sample, state, tuple(range(many))), told(sample, state))
                for lot in lots_of(min(many, 5)):
                    self.assertEqual(told_by(sample, state, lot), naive_told_by(sample, state, lot))

    def test_some(self):
        sample = using()
        state = behind(sample, (5,), 8)
        none = {("pile", 0, 0): "num", ("pile", 0, 1): "fun", ("pile", 1, 1): "fun", ("pile", 1, 2): "num",
                ("pile", 2, 0): "row"}
        rows = {("heap", 100, 0): "num", ("heap", 100, 1): "num"}
        first = {("pile", 1, 0): "row"}
        self.assertEqual(told_by(sample, state, ()), none)
        self.assertEqual(told_by(sample, state, (0,)), {**none, **rows})
        self.assertEqual(told_by(sample, state, (1,)), {**none, **first})
        self.assertEqual(told_by(sample, state, (2,)), {**none, ("heap", 102, 2): "fun"})
        self.assertEqual(told_by(sample, state, (3,)), none)
        self.assertEqual(told_by(sample, state, (4,)), {**none, **first})
        self.assertEqual(told_by(sample, state, (0, 4)), {**none, **first, **rows})
        self.assertEqual(told_by(sample, state, (2, 4)), {
            **none, **first, ("heap", 102, 1): "row", ("heap", 102, 2): "fun"})

    def test_a_cell_that_has_no_kind_by_a_lot_has_no_spots(self):
        sample = using()
        state = behind(sample, (5,), 7)
        self.assertEqual(sources(sample, state)[0], ("cell", 100))
        none = told_by(sample, state, ())
        self.assertEqual(told_by(sample, state, (0,)), none)
        self.assertEqual(told_by(sample, state, (0, 1)), {
            **none, ("pile", 1, 0): "row", ("heap", 100, 0): "num", ("heap", 100, 1): "num"})

    def test_cells_that_are_not_asked_still_have_one_kind(self):
        sample = Program((), (
            main((("body", 2, (), (0,)), ("call", 1, (0,))), ("back", 2)),
            (1, (A, box(A), NUM), NUM, ((("open", 1), ("print", 2)), ("back", 2))),
            (0, (NUM,), NUMBERS, ((
                ("row", (0, 0)), ("box", 1), ("take", 1, (("row", (NUM, NUM)),), (1, 2))), ("back", 3)))))
        state = behind(sample, (5,), 7)
        self.assertEqual(told_by(sample, state, ()), {
            ("pile", 0, 0): "num", ("pile", 0, 1): "fun", ("pile", 1, 1): "box", ("pile", 1, 2): "num"})
        # Cell 101, a box, is of one kind for the frame that is there and for a frame that names its kind.
        other = Program((), (
            main((("row", (0, 0)), ("box", 1), ("take", 1, (("row", (NUM, NUM)),), (1, 2)), ("call", 3, (0,))), ("back", 4)),
            sample.bodies[1], sample.bodies[2]))
        state = behind(other, (5,), 4)
        self.assertEqual(told_by(other, state, ()), {
            ("pile", 0, 0): "num", ("pile", 0, 1): "row", ("pile", 0, 2): "box", ("pile", 0, 3): "fun",
            ("pile", 1, 0): "row", ("pile", 1, 1): "box", ("pile", 1, 2): "num"})
        self.assertEqual(tellers(other, state, ("pile", 1, 0)), [()])

    def test_over(self):
        sample = hold()
        state = behind(sample, (5,), 6)
        self.assertEqual(told_by(sample, state, ()), {})
        with self.assertRaises(NoLot):
            told_by(sample, state, (0,))

    def test_no_lot(self):
        sample = using()
        state = behind(sample, (5,), 8)
        for thing in odd_things() + [
                [0], [], (True,), (False,), (0, True), (0, 0), (1, 0), (0, 2, 1), (-1,), (5,), (0, 5), (0, 1, 2, 3, 4, 5),
                ("0",), (None,), {0: 1}, 0, ((0,),), (0, (1,)), range(2), "01", (10 ** 39,), (-10 ** 39, 0)]:
            if thing in [(), (0,)] and type(thing) is tuple:
                continue
            with self.assertRaises(NoLot):
                told_by(sample, state, thing)

    def test_what_is_returned_is_new(self):
        sample = using()
        state = behind(sample, (5,), 8)
        told_by(sample, state, ()).clear()
        self.assertEqual(len(told_by(sample, state, ())), 5)


class TellersTest(unittest.TestCase):
    def test_least_lots(self):
        sample = using()
        state = behind(sample, (5,), 8)
        for spot, lots in (
                (("pile", 0, 0), [()]), (("pile", 0, 1), [()]), (("pile", 1, 0), [(1,), (4,)]), (("pile", 1, 1), [()]),
                (("pile", 2, 0), [()]), (("heap", 100, 0), [(0,)]), (("heap", 100, 1), [(0,)]),
                (("heap", 102, 1), [(1, 2), (2, 4)]), (("heap", 102, 2), [(2,)])):
            self.assertEqual(tellers(sample, state, spot), lots)
        state = behind(sample, (5,), 7)
        for spot, lots in (
                (("pile", 1, 0), [(1,)]), (("heap", 100, 0), [(0, 1)]), (("heap", 102, 1), [(1, 2)])):
            self.assertEqual(tellers(sample, state, spot), lots)

    def test_more_than_one_function(self):
        for many in (2, 3):
            sample = using(many)
            state = behind(sample, (5,), 6 + many)
            self.assertEqual(len(sources(sample, state)), many + 3)
            self.assertEqual(tellers(sample, state, ("pile", 1, 0)), [(at,) for at in range(1, many + 1)])
            self.assertEqual(tellers(sample, state, ("heap", 100, 1)), [(0, at) for at in range(1, many + 1)])
            holder = many + 1
            self.assertEqual(tellers(sample, state, ("heap", 100 + holder, 1)), [
                (at, holder) for at in range(1, many + 1)])

    def test_lots_of_unlike_sizes_are_ascending(self):
        seen = set()
        for sample, inputs in ((using(2), (5,)), (using(2), (0,)), (nested(), (5,)), (lists(), (5,))):
            for steps in range(16):
                state = ran(sample, begun(sample, inputs), upwards, steps)
                if len(sources(sample, state)) > 7:
                    continue
                for spot in told(sample, state):
                    lots = tellers(sample, state, spot)
                    self.assertEqual(lots, naive_tellers(sample, state, spot))
                    self.assertEqual(lots, sorted(lots))
                    seen.add(tuple(map(len, lots)))
        self.assertGreater(len(seen), 4)

    def test_no_spot(self):
        sample = using()
        state = behind(sample, (0,), 8)
        self.assertEqual(open_spots(sample, state), [("heap", 102, 1), ("pile", 1, 0), ("pile", 2, 1)])
        self.assertEqual(tellers(sample, state, ("pile", 0, 1)), [()])
        for thing in odd_things() + open_spots(sample, state) + [
                ("pile", 0, True), ("pile", False, 1), ["pile", 0, 1], ("pile", 0), ("pile", 0, 1, 0), ("pile", 3, 0),
                ("pile", 0, 2), ("pile", -1, 0), ("heap", 100, 0), ("heap", 101, 0), ("heap", 101, 2), ("heap", 99, 0),
                (b"pile", 0, 1), ("Pile", 0, 1), ("pile", [], 1), ([], 0, 1), ("pile", 0, None), ("cell", 101),
                ("wait", 0), ("heap", "101", 1), ("heap", 101, False), (None, None, None), {0: 1}, ("pile", (0,), 1)]:
            for function in (lambda: tellers(sample, state, thing), lambda: is_teller(sample, state, thing, ())):
                with self.assertRaises(NoSpot):
                    function()
        self.assertEqual(tellers(sample, state, ("heap", 101, 1)), [(0,)])

    def test_too_many(self):
        for many, is_right in ((10, True), (11, False)):
            sample = program((("box", 0),) * many, ("back", 0))
            state = behind(sample, (5,), many)
            for spot in (("pile", 0, 1), ("heap", 100, 0)):
                if is_right:
                    self.assertEqual(tellers(sample, state, spot), [()] if spot[0] == "pile" else [(0,)])
                    continue
                with self.assertRaises(TooMany) as caught:
                    tellers(sample, state, spot)
                self.assertEqual(caught.exception.most, 10)
            with self.assertRaises(NoSpot):
                tellers(sample, state, ("pile", 0, many + 1))

    def test_ten_sources_of_both_sorts(self):
        sample = program((("box", 0),) * 6 + (("body", 1, (), ()),), ("back", 0), [
            (0, (), NUM, ((("body", 1, (), ()),), ("back", 0)))])
        state = behind(sample, (5,), 10)
        self.assertEqual(len(sources(sample, state)), 10)
        self.assertEqual(tellers(sample, state, ("heap", 105, 0)), [(5,)])
        state = behind(sample, (5,), 11)
        self.assertEqual(len(sources(sample, state)), 11)
        with self.assertRaises(TooMany):
            tellers(sample, state, ("heap", 105, 0))
        with self.assertRaises(NoSpot):
            tellers(sample, state, ("heap", 106, 0))

    def test_is_teller_of_more_than_ten(self):
        sample = program((("box", 0),) * 30, ("back", 0))
        state = behind(sample, (5,), 30)
        spot = ("heap", 107, 0)
        self.assertIs(is_teller(sample, state, spot, (7,)), True)
        self.assertIs(is_teller(sample, state, spot, tuple(range(30))), True)
        self.assertIs(is_teller(sample, state, spot, tuple(at for at in range(30) if at != 7)), False)


class IsTellerTest(unittest.TestCase):
    def test_every_lot(self):
        for sample, steps in ((hold(), 4), (nested(), 5), (using(), 8), (using(2), 9)):
            state = behind(sample, (5,), steps)
            many = len(sources(sample, state))
            for spot in told(sample, state):
                least = tellers(sample, state, spot)
                for lot in lots_of(many):
                    expected = any(set(one) <= set(lot) for one in least)
                    self.assertIs(is_teller(sample, state, spot, lot), expected)

    def test_odd_things(self):
        sample = using()
        state = behind(sample, (5,), 8)
        for thing in odd_things() + [[0], (True,), (0, True), (1, 0), (1, 1), (5,), (-1,), 0, "0", [1], [()], {}]:
            for spot in (("pile", 0, 0), ("pile", 1, 0)):
                expected = type(thing) is tuple and thing in [(), (0,)] and spot == ("pile", 0, 0)
                self.assertIs(is_teller(sample, state, spot, thing), expected)

    def test_perhaps_more_than_need_be(self):
        sample = using()
        state = behind(sample, (5,), 8)
        self.assertIs(is_teller(sample, state, ("pile", 1, 0), (1,)), True)
        self.assertIs(is_teller(sample, state, ("pile", 1, 0), (0, 1, 2, 3, 4)), True)
        self.assertIs(is_teller(sample, state, ("pile", 1, 0), (0, 2, 3)), False)


class LossesTest(unittest.TestCase):
    def test_losses(self):
        sample = using()
        state = behind(sample, (5,), 7)
        self.assertEqual(losses(sample, state, ("cell", 100)), [("heap", 100, 0), ("heap", 100, 1)])
        self.assertEqual(losses(sample, state, ("cell", 101)), [
            ("heap", 100, 0), ("heap", 100, 1), ("heap", 102, 1), ("pile", 1, 0)])
        self.assertEqual(losses(sample, state, ("cell", 102)), [("heap", 102, 1), ("heap", 102, 2)])
        self.assertEqual(losses(sample, state, ("wait", 0)), [])
        state = behind(sample, (5,), 8)
        self.assertEqual(losses(sample, state, ("cell", 101)), [])
        self.assertEqual(losses(sample, state, ("wait", 1)), [])
        state = behind(sample, (0,), 8)
        self.assertEqual(losses(sample, state, ("cell", 101)), [("heap", 101, 1)])

    def test_what_a_wait_at_a_body_step_tells(self):
        # Body 1 is handed a thing of a letter, and no cell and no other frame shows of what kind it is.
        sample = Program((), (
            main((("row", (0, 0)), ("body", 1, (("row", (NUM, NUM)),), (1,))), ("back", 0)),
            (1, (A,), NUM, ((("row", (0, 0)), ("body", 2, (A, A), (0, 1))), ("back", 2))),
            (2, (A, ("row", (("letter", 1),) * 2)), NUM, ((("num", 1),), ("back", 2)))))
        state = behind(sample, (5,), 4)
        self.assertEqual(state[0][2], (2, (0,), (100, 101)))
        there = sources(sample, state)
        self.assertEqual(there, [("cell", 100), ("cell", 101), ("wait", 0), ("wait", 1)])
        self.assertEqual(losses(sample, state, ("wait", 1)), [("pile", 2, 0)])
        self.assertEqual(losses(sample, state, ("wait", 0)), [
            ("heap", 101, 0), ("heap", 101, 1), ("pile", 1, 0), ("pile", 2, 0)])
        self.assertEqual(tellers(sample, state, ("pile", 2, 0)), [(2, 3)])
        self.assertEqual(tellers(sample, state, ("pile", 2, 1)), [()])
        self.assertEqual(tellers(sample, state, ("heap", 101, 1)), [(1, 2)])
        self.assertEqual(tellers(sample, state, ("heap", 100, 1)), [(0,)])

    def test_losses_of_all(self):
        for sample in (hold(), nested(), using(), using(2), lists()):
            for steps in range(17):
                for inputs in ((5,), (0,)):
                    state = ran(sample, begun(sample, inputs), upwards, steps)
                    there = sources(sample, state)
                    self.assertEqual(there, naive_sources(sample, state))
                    for at, source in enumerate(there):
                        self.assertEqual(losses(sample, state, source), naive_losses(sample, state, at))

    def test_no_source(self):
        sample = using()
        state = behind(sample, (5,), 8)
        for thing in odd_things() + [
                ("cell", 99), ("cell", 103), ("wait", 2), ("wait", -1), ("wait", True), ("wait", False), ["wait", 0],
                ("wait",), ("wait", 0, 0), ("cell", "100"), ("cell", None), (b"wait", 0), ("cells", 100), 0, ("cell", [100]),
                ("heap", 100, 0), ("pile", 0), ("cell", (100,)), ([], 0), ({}, {})]:
            with self.assertRaises(NoSource):
                losses(sample, state, thing)
        with self.assertRaises(NoSource):
            losses(sample, behind(sample, (0,), 8), ("cell", 100))
        self.assertEqual(losses(sample, state, ("wait", 0)), [])


def naive_losses(sample, state, at):
    many = len(sources(sample, state))
    left = naive_told_by(sample, state, tuple(one for one in range(many) if one != at))
    return sorted(set(told(sample, state)) - set(left))


if __name__ == "__main__":
    unittest.main()
