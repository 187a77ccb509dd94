"""Open words exchanged, and collectors of strangers that are judged."""

import unittest

from barewords.collecting import collected
from barewords.desk import Desk
from barewords.errors import BadPlacer, NoInputs, NoNumber, NoWords
from barewords.keeper import Keeper
from barewords.machine import begun, is_making, ran
from barewords.plain import plain
from barewords.strangers import exchanged, judged
from barewords.telling import met, open_spots, told
from samples import counting, hold, odd_things, program
from states import behind, downwards, like_numbers, lists, nested, upwards, using

STATE = (((0, (1,), (5, 7)), (1, (0,), (5, 5, 5))), ((7, (1, 5, 5)),), (3,))


def never(*arguments):
    raise AssertionError("a placer or a collector was called")


class ExchangedTest(unittest.TestCase):
    def test_numbers_and_places(self):
        for word in (0, -1, 1, 7, 8, -10 ** 40 + 1, 10 ** 300):
            self.assertEqual(exchanged(hold(), STATE, {("heap", 7, 1): word}), (STATE[0], ((7, (1, word, 5)),), (3,)))
            self.assertEqual(exchanged(hold(), STATE, {("pile", 1, 0): word}), (
                (STATE[0][0], (1, (0,), (word, 5, 5))), STATE[1], (3,)))
        self.assertEqual(exchanged(hold(), STATE, {("pile", 1, 0): 1, ("heap", 7, 1): 2}), (
            (STATE[0][0], (1, (0,), (1, 5, 5))), ((7, (1, 2, 5)),), (3,)))

    def test_nothing(self):
        self.assertEqual(exchanged(hold(), STATE, {}), STATE)
        over = behind(hold(), (5,), 6)
        self.assertEqual(exchanged(hold(), over, {}), over)

    def test_every_open_spot(self):
        for sample, most in ((hold(), 6), (counting(), 30), (nested(), 9), (using(2), 12), (lists(), 18)):
            for steps in range(most):
                state = behind(sample, (5,), steps)
                spots = open_spots(sample, state)
                other = exchanged(sample, state, {spot: 77 for spot in spots})
                self.assertEqual(open_spots(sample, other), spots)
                self.assertEqual(told(sample, other), told(sample, state))
                self.assertEqual(met(sample, other), met(sample, state))
                self.assertEqual(ran(sample, other, upwards, 100)[2], ran(sample, state, upwards, 100)[2])
                for spot in told(sample, state):
                    with self.assertRaises(NoWords):
                        exchanged(sample, state, {**{one: 77 for one in spots}, spot: 77})

    def test_no_dict(self):
        for thing in odd_things() + [(), [], [(("pile", 1, 0), 5)], ((("pile", 1, 0), 5),), Desk(), Keeper(hold(), (5,), 1)]:
            if thing == {} and type(thing) is dict:
                continue
            with self.assertRaises(NoWords):
                exchanged(hold(), STATE, thing)

    def test_no_open_spots(self):
        for spot in (("pile", 0, 0), ("pile", 0, 1), ("pile", 1, 1), ("heap", 7, 2), ("heap", 7, 0), ("heap", 7, 3),
                     ("heap", 8, 1), ("pile", 2, 0), ("pile", -1, 0), ("pile", 1, -3), ("pile", 1), ("pile", 1, 0, 0),
                     ("heap", 7), "pile", 0, None, (), b"", ("pile", 1, "0"), ("box", 1, 0), (0, 1, 0), ("pile", (1,), 0),
                     hold, Desk(), Keeper(hold(), (5,), 1), int, range(3), ((("pile", 1, 0),),)):
            with self.assertRaises(NoWords):
                exchanged(hold(), STATE, {spot: 5})
            with self.assertRaises(NoWords):
                exchanged(hold(), STATE, {("pile", 1, 0): 5, spot: 5})
        # Cells that are not met have no spots.
        with self.assertRaises(NoWords):
            exchanged(nested(), behind(nested(), (5,), 5), {("heap", 100, 1): 5})
        with self.assertRaises(NoWords):
            exchanged(hold(), behind(hold(), (5,), 6), {("heap", 100, 1): 5})

    def test_no_integers(self):
        for thing in odd_things():
            if type(thing) is int:
                continue
            with self.assertRaises(NoWords):
                exchanged(hold(), STATE, {("pile", 1, 0): thing})
            with self.assertRaises(NoWords):
                exchanged(hold(), STATE, {("heap", 7, 1): 1, ("pile", 1, 0): thing})

    def test_words_stay_as_they_are(self):
        words = {("pile", 1, 0): 1, ("heap", 7, 1): 2}
        exchanged(hold(), STATE, words)
        self.assertEqual(words, {("pile", 1, 0): 1, ("heap", 7, 1): 2})


class Noting:
    """A collector that returns what others return, by turns, and notes how often it was called."""

    def __init__(self, *others):
        self.others, self.calls = others, []

    def __call__(self, *arguments):
        self.calls.append(arguments)
        return self.others[min(len(self.calls), len(self.others)) - 1](*arguments)


def kept(one, state):
    return state


def moved(one, state):
    return collected(one, state, lambda places: -1 - len(places))


def blind(one, state):
    """Leaves the cells to which nothing told leads, and drops all else, but moves nothing."""
    places = met(one, state)
    return state[0], tuple(pair for pair in state[1] if pair[0] in places), state[2]


def opened(one, state):
    return exchanged(one, state, {spot: 10 ** 39 for spot in open_spots(one, state)})


class JudgedTest(unittest.TestCase):
    def test_right_collectors(self):
        for sample, inputs in ((hold, (5,)), (counting, (6,)), (nested, (5,)), (using, (5,)), (using, (0,)), (lists, (5,))):
            one = sample()
            for collector in (kept, moved, blind, opened, Noting(kept, moved), Noting(opened, blind, moved)):
                for placer in (upwards, downwards, like_numbers):
                    for most in (0, 1, 2, 3, 5, 9, 10, 11, 100000):
                        word, state = judged(collector, one, inputs, placer, most)
                        self.assertEqual(word, "right")
                        self.assertEqual((state[2], not state[0]), plain(one, inputs, most))

    def test_the_state_in_which_the_run_ends(self):
        for most in range(12):
            self.assertEqual(judged(kept, nested(), (5,), upwards, most), (
                "right", ran(nested(), begun(nested(), (5,)), upwards, most)))
        self.assertEqual(judged(moved, hold(), (5,), upwards, 100), ("right", ((), ((-1, (1, 5, 5)), (0, (5,))), (10,))))

    def test_what_it_is_called_with(self):
        one = nested()
        collector = Noting(kept)
        judged(collector, one, (5,), upwards, 100)
        stops = [state for state in (behind(one, (5,), most) for most in range(8)) if is_making(one, state)]
        self.assertEqual(len(stops), 3)
        self.assertEqual([state for _, state in collector.calls], stops)
        self.assertTrue(all(program_there is one for program_there, _ in collector.calls))
        # Not where the run is cut just ahead of a making.
        for most, calls in ((0, 0), (1, 0), (2, 1), (3, 2), (5, 2), (6, 3)):
            collector = Noting(kept)
            judged(collector, one, (5,), upwards, most)
            self.assertEqual(len(collector.calls), calls, most)

    def test_unlike_ones_at_each_call(self):
        for sample in (nested, using, lists):
            one = sample()
            collector = Noting(moved)
            judged(collector, one, (5,), upwards, 100)
            many = len(collector.calls)
            for number in range(many + 1):
                for wrong in (lambda a, b: None, lambda a, b: (b[0], (), (1,)), lambda a, b: list(b), lambda a, b: a):
                    collector = Noting(*[moved] * number, wrong, never)
                    verdict = judged(collector, one, (5,), upwards, 100)
                    if number < many:
                        self.assertEqual(verdict, ("unlike", number))
                        self.assertEqual(len(collector.calls), number + 1)
                    else:
                        self.assertEqual(verdict[0], "right")

    def test_any_object(self):
        for thing in odd_things() + [Desk(), Keeper(hold(), (5,), 1)]:
            self.assertEqual(judged(lambda one, state: thing, hold(), (5,), never, 100), ("unlike", 0))

    def test_collectors_that_are_wrong_about_links(self):
        def by_numbers(one, state):
            """Writes each word anew that looks like a link."""
            new = {place: place + 1000 for place, _ in state[1]}
            pile = tuple((body, point, tuple(new.get(word, word) for word in words)) for body, point, words in state[0])
            return pile, tuple((new[place], tuple(new.get(word, word) for word in cell)) for place, cell in state[1]), state[2]
        boxes = program((("box", 0), ("box", 0), ("box", 0)), ("back", 0))
        self.assertEqual(judged(by_numbers, boxes, (5,), upwards, 100)[0], "right")
        # The place is like the number that it holds; the second stop shows it.
        self.assertEqual(judged(by_numbers, boxes, (100,), upwards, 100), ("unlike", 1))

        def empties(one, state):
            return state[0], (), state[2]
        self.assertEqual(judged(empties, boxes, (5,), upwards, 100), ("unlike", 1))

    def test_cells_that_are_put_in_take_places(self):
        def puts_in(one, state):
            return state[0], tuple(sorted((*state[1], (100 + len(state[1]), (7,))))), state[2]
        seen = []

        def placer(places):
            seen.append(places)
            return upwards(places)
        boxes = program((("box", 0), ("box", 0)), ("back", 0))
        self.assertEqual(judged(puts_in, boxes, (5,), placer, 100)[0], "right")
        self.assertEqual(seen, [(100,), (100, 101, 102)])

    def test_errors_in_their_order(self):
        for inputs in [thing for thing in odd_things() if thing != (0,)]:
            with self.assertRaises(NoInputs):
                judged(never, hold(), inputs, never, "most")
        for most in odd_things() + [-1, 100001]:
            with self.assertRaises(NoNumber):
                judged(never, hold(), (5,), never, most)

    def test_bad_placer(self):
        # Of hold it makes two cells; the collector's own placer is none of the run.
        for number in range(2):
            for wrong in (None, True, "taken"):
                left = [number]

                def placer(places):
                    left[0] -= 1
                    return upwards(places) if left[0] >= 0 else places[0] if wrong == "taken" and places else wrong
                with self.assertRaises(BadPlacer) as caught:
                    judged(moved, hold(), (5,), placer, 100)
                self.assertEqual(caught.exception.number, number)

    def test_own_errors_of_collectors_and_placers_go_on(self):
        class Own(Exception):
            pass
        for error in (Own, ValueError, KeyError, NoWords, NoInputs, RecursionError, StopIteration):
            def raises(*arguments):
                raise error()
            with self.assertRaises(error):
                judged(raises, hold(), (5,), upwards, 100)
            with self.assertRaises(error):
                judged(kept, hold(), (5,), raises, 100)
            with self.assertRaises(error):
                judged(Noting(kept, raises), hold(), (5,), upwards, 100)

        def bad(one, state):
            return collected(one, state, lambda places: None)
        with self.assertRaises(BadPlacer) as caught:
            judged(bad, using(2), (5,), upwards, 100)
        self.assertEqual(caught.exception.number, 0)


if __name__ == "__main__":
    unittest.main()
