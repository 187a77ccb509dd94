"""The collector: what stays, where the placer is asked, and runs with collectings."""

import unittest

from barewords.collecting import collected, ran_collecting
from barewords.errors import BadPlacer, NoInputs, NoNumber
from barewords.machine import begun, is_making
from barewords.plain import plain
from barewords.telling import met, open_spots, told
from naive_states import naive_collected
from naive_telling import naive_next
from samples import counting, hold, odd_things, program
from states import PLACERS, behind, like_numbers, lists, nested, upwards, using

SAMPLES = ((hold, (5,)), (counting, (6,)), (nested, (5,)), (using, (5,)), (using, (0,)), (lists, (5,)))


class Told:
    """A placer that tells these places, and keeps what it was called with."""

    def __init__(self, *places):
        self.places, self.calls = list(places), []

    def __call__(self, *arguments):
        self.calls.append(arguments)
        return self.places.pop(0)


def never(places):
    raise AssertionError("a placer was called")


def bad_number(call, *arguments):
    try:
        call(*arguments)
    except BadPlacer as error:
        return error.number
    return None


class CollectedTest(unittest.TestCase):
    def test_told_links_are_written_anew_and_all_other_words_stay(self):
        state = (((0, (1,), (5, 7)), (1, (0,), (5, 5, 5))), ((7, (1, 5, 5)),), ())
        self.assertEqual(collected(hold(), state, lambda places: 42), (
            ((0, (1,), (5, 42)), (1, (0,), (5, 5, 5))), ((42, (1, 5, 5)),), ()))
        # Numbers and open words that look like the cell's place.
        state = (((0, (1,), (7, 7)), (1, (0,), (7, 7, 7))), ((7, (1, 7, 7)),), (7,))
        self.assertEqual(collected(hold(), state, lambda places: 42), (
            ((0, (1,), (7, 42)), (1, (0,), (7, 7, 7))), ((42, (1, 7, 7)),), (7,)))

    def test_just_the_met_cells(self):
        state = behind(nested(), (5,), 5)
        self.assertEqual(state, (
            ((0, (1,), (5, 101)), (1, (0,), (100, 5, 5))), ((100, (1, 5, 5)), (101, (1, 100, 5))), ()))
        self.assertEqual(collected(nested(), state, lambda places: -3), (
            ((0, (1,), (5, -3)), (1, (0,), (100, 5, 5))), ((-3, (1, 100, 5)),), ()))
        # Also where the new place is the old one of a cell that is dropped.
        self.assertEqual(collected(nested(), state, lambda places: 100), (
            ((0, (1,), (5, 100)), (1, (0,), (100, 5, 5))), ((100, (1, 100, 5)),), ()))
        # A cell that was put in goes.
        more = (state[0], ((7, (1,)), *state[1], (900, ())), state[2])
        self.assertEqual(collected(nested(), more, lambda places: -3), collected(nested(), state, lambda places: -3))

    def test_asked_in_the_order_of_the_old_places_with_those_told(self):
        sample = using(2)
        state = behind(sample, (5,), 6)
        self.assertEqual(met(sample, state), (100, 101, 102, 103))
        placer = Told(9, -10 ** 39, 103, 50)
        other = collected(sample, state, placer)
        self.assertEqual(placer.calls, [((),), ((9,),), ((-10 ** 39, 9),), ((-10 ** 39, 9, 103),)])
        self.assertEqual(other, naive_collected(sample, state, Told(9, -10 ** 39, 103, 50)))
        self.assertEqual([place for place, _ in other[1]], [-10 ** 39, 9, 50, 103])
        self.assertEqual(dict(other[1])[9], dict(state[1])[100])
        self.assertTrue(all(type(call[0]) is tuple for call in placer.calls))

    def test_points_and_what_was_said_stay(self):
        for sample, inputs in SAMPLES:
            one = sample()
            for steps in range(40):
                state = behind(one, inputs, steps) if not plain(one, inputs, steps)[1] else ((), (), ())
                for placer in PLACERS:
                    other = collected(one, state, placer)
                    self.assertEqual([frame[:2] for frame in other[0]], [frame[:2] for frame in state[0]])
                    self.assertEqual(other[2], state[2])
                    self.assertEqual(other, naive_collected(one, state, placer))
                    self.assertEqual(len(other[1]), len(met(one, state)))

    def test_once_more(self):
        for sample, inputs in SAMPLES:
            one = sample()
            for steps in range(12):
                state = behind(one, inputs, min(steps, 5))
                other = collected(one, state, upwards)
                self.assertEqual(collected(one, other, upwards), other)
                for placer in PLACERS:
                    self.assertEqual(collected(one, collected(one, state, placer), like_numbers),
                                     naive_collected(one, naive_collected(one, state, placer), like_numbers))

    def test_of_a_state_that_is_over_no_cell_is_left(self):
        state = behind(hold(), (5,), 6)
        self.assertTrue(state[1])
        self.assertEqual(collected(hold(), state, never), ((), (), (10,)))

    def test_a_failed_call_changes_nothing(self):
        state = behind(using(2), (5,), 6)
        again = behind(using(2), (5,), 6)
        self.assertEqual(bad_number(collected, using(2), state, Told(1, 2, 2)), 2)
        self.assertEqual(state, again)

    def test_bad_placer(self):
        sample = using(2)
        state = behind(sample, (5,), 6)
        for thing in odd_things():
            if type(thing) is int:
                continue
            for number in range(4):
                placer = Told(*range(number), thing)
                self.assertEqual(bad_number(collected, sample, state, placer), number)
                self.assertEqual(placer.calls[-1], (tuple(range(number)),))
        self.assertEqual(bad_number(collected, sample, state, Told(5, 5)), 1)
        self.assertEqual(bad_number(collected, sample, state, Told(5, 6, 5)), 2)
        self.assertEqual(bad_number(collected, sample, state, Told(5, 6, 7, 6)), 3)
        self.assertIsNone(bad_number(collected, sample, state, Told(5, 6, 7, 8)))
        # Old places are free.
        self.assertIsNone(bad_number(collected, sample, state, Told(103, 102, 101, 100)))

    def test_own_errors_of_placers_go_on(self):
        class Own(Exception):
            pass
        for error in (Own, ValueError, KeyError, IndexError, StopIteration, RecursionError, BadPlacer):
            def placer(places):
                raise error(77)
            with self.assertRaises(error) as caught:
                collected(using(), behind(using(), (5,), 5), placer)
            self.assertEqual(caught.exception.__dict__.get("number", 77), 77)


def naive_run(sample, inputs, placer, most, each):
    """The run told by single steps; how many places were told comes third."""
    state, makings, told_ahead, counts = begun(sample, inputs), 0, 0, []
    for _ in range(most):
        if not state[0]:
            break
        place = None
        if is_making(sample, state):
            makings += 1
            if makings % each == 0:
                ahead = len(state[1])
                state = naive_collected(sample, state, placer)
                counts.append((ahead, len(state[1])))
                told_ahead += len(state[1])
            place = placer(tuple(place for place, _ in state[1]))
            told_ahead += 1
        state = naive_next(sample, state, place)
    return state, tuple(counts), told_ahead


class RanCollectingTest(unittest.TestCase):
    def test_what_comes_at_each_bound(self):
        for sample, inputs in SAMPLES:
            one = sample()
            most = 0
            while most < 45 and not plain(one, inputs, most)[1]:
                most += 1
            for each in (1, 2, 3, 7, 1000):
                for placer in PLACERS:
                    for bound in (*range(0, most + 2, 1 if most < 20 else 5), 100000):
                        state, counts = ran_collecting(one, inputs, placer, bound, each)
                        self.assertEqual((state[2], not state[0]), plain(one, inputs, bound))
                        if bound <= most + 2:
                            self.assertEqual((state, counts), naive_run(one, inputs, placer, bound, each)[:2])

    def test_a_run_that_is_cut_just_ahead_of_a_making(self):
        sample = using(2)
        # Steps 1, 3, 4 and 5 make cells.
        self.assertEqual([
            most for most in range(8) if is_making(sample, behind(sample, (5,), most))], [1, 3, 4, 5])
        counts = [ran_collecting(sample, (5,), upwards, most, 1)[1] for most in range(8)]
        self.assertEqual([len(one) for one in counts], [0, 0, 1, 1, 2, 3, 4, 4])
        counts = [ran_collecting(sample, (5,), upwards, most, 2)[1] for most in range(8)]
        self.assertEqual([len(one) for one in counts], [0, 0, 0, 0, 1, 1, 2, 2])
        self.assertEqual(ran_collecting(sample, (5,), never, 1, 1), (behind(sample, (5,), 1), ()))

    def test_counts(self):
        # Each box but the last one is dropped: its place is told, but as its kind is a box, it is met.
        boxes = program((("box", 0), ("box", 1), ("box", 2)), ("back", 0))
        self.assertEqual(ran_collecting(boxes, (5,), upwards, 100, 1)[1], ((0, 0), (1, 1), (2, 2)))
        state, counts = ran_collecting(nested(), (5,), upwards, 6, 1)
        self.assertEqual(counts, ((0, 0), (1, 1), (2, 1)))
        self.assertEqual(len(state[1]), 2)
        state, counts = ran_collecting(nested(), (5,), upwards, 100, 1)
        self.assertEqual((state[0], state[2], counts), ((), (10,), ((0, 0), (1, 1), (2, 1))))
        # A run that is over is not collected once more.
        self.assertEqual(len(state[1]), 2)

    def test_pairs(self):
        answer = ran_collecting(nested(), (5,), upwards, 100, 3)
        self.assertIs(type(answer), tuple)
        self.assertIs(type(answer[1]), tuple)
        self.assertEqual(answer[1], ((2, 1),))
        self.assertEqual(ran_collecting(nested(), (5,), upwards, 100, 4)[1], ())

    def test_errors_in_their_order(self):
        for inputs in [thing for thing in odd_things() if type(thing) is not tuple or thing != (0,)] + [(1, 2), (True,)]:
            with self.assertRaises(NoInputs):
                ran_collecting(hold(), inputs, None, "most", "each")
        for thing in odd_things() + [-1, 100001]:
            with self.assertRaises(NoNumber):
                ran_collecting(hold(), (5,), None, thing, 1)
        for thing in odd_things() + [0, -1, 1001]:
            with self.assertRaises(NoNumber):
                ran_collecting(hold(), (5,), None, 10, thing)
        self.assertEqual(ran_collecting(hold(), (5,), never, 0, 1000), (begun(hold(), (5,)), ()))

    def test_bad_placer_tells_how_many_places_were_told(self):
        for sample, inputs in ((using, (5,)), (nested, (5,)), (counting, (3,))):
            one = sample()
            for each in (1, 2, 3):
                told_in_all = naive_run(one, inputs, upwards, 100, each)[2]
                self.assertGreater(told_in_all, 2)
                for number in range(told_in_all + 2):
                    for wrong in (None, True, "taken"):
                        left = [number]

                        def placer(places):
                            left[0] -= 1
                            if left[0] >= 0:
                                return upwards(places)
                            return wrong if wrong != "taken" else places[0] if places else None
                        expected = number if number < told_in_all else None
                        self.assertEqual(bad_number(ran_collecting, one, inputs, placer, 100, each), expected)

    def test_own_errors_of_placers_go_on(self):
        def placer(places):
            raise KeyError(places)
        with self.assertRaises(KeyError):
            ran_collecting(hold(), (5,), placer, 100, 1)

    def test_long_runs(self):
        one = counting()
        for each in (1, 50, 1000):
            state, counts = ran_collecting(one, (150,), upwards, 100000, each)
            self.assertEqual(state[2], (150, 150 * 151 // 2))
            self.assertEqual(len(counts), 151 // each)


class FactTest(unittest.TestCase):
    def test_what_is_told_stays_told(self):
        for sample, inputs in SAMPLES:
            one = sample()
            for steps in range(6):
                state = behind(one, inputs, steps)
                other = collected(one, state, upwards)
                new = dict(zip(met(one, state), met(one, other)))

                def anew(spot):
                    return spot if spot[0] == "pile" else ("heap", new[spot[1]], spot[2])
                self.assertEqual(told(one, other), {anew(spot): head for spot, head in told(one, state).items()})
                self.assertEqual(open_spots(one, other), [anew(spot) for spot in open_spots(one, state)])


if __name__ == "__main__":
    unittest.main()
