"""Runs of the machine: bounds, placers, and that they say what plain runs say."""

import random
import unittest

from barewords.errors import BadPlacer, NoNumber
from barewords.machine import begun, is_making, next_state, ran
from barewords.plain import plain
from samples import NUM, counting, hold, odd_things, program
from states import PLACERS, behind, lists, nested, upwards, using

SAMPLES = (
    (hold, (5,), 6), (counting, (0,), None), (counting, (7,), None), (nested, (5,), None), (using, (5,), None),
    (using, (0,), None), (lists, (5,), None))


def never(places):
    raise AssertionError("a placer was called")


class BoundsTest(unittest.TestCase):
    def test_what_is_said_is_what_plain_says_at_each_bound(self):
        for sample, inputs, steps in SAMPLES:
            one = sample()
            most = 0
            while not plain(one, inputs, most)[1]:
                most += 1
            self.assertIn(steps, (None, most))
            for placer in PLACERS:
                state = begun(one, inputs)
                for bound in list(range(most + 3)) + [100000]:
                    said, is_over = plain(one, inputs, bound)
                    last = ran(one, state, placer, bound)
                    self.assertEqual((last[2], not last[0]), (said, is_over))
                    self.assertEqual(last, behind(one, inputs, min(bound, most), placer))

    def test_goes_on_from_any_state(self):
        one = counting()
        for placer in PLACERS:
            state = begun(one, (4,))
            for _ in range(20):
                state = ran(one, state, placer, 5)
            self.assertEqual(state, ran(one, begun(one, (4,)), placer, 100))

    def test_nothing_is_done(self):
        state = behind(hold(), (5,), 2)
        self.assertEqual(ran(hold(), state, never, 0), state)
        over = behind(hold(), (5,), 6)
        for most in (0, 1, 100000):
            self.assertEqual(ran(hold(), over, never, most), over)

    def test_no_number(self):
        for thing in odd_things() + [100001, -1, "1", (1,)]:
            if type(thing) is int and 0 <= thing <= 100000:
                continue
            with self.assertRaises(NoNumber):
                ran(hold(), begun(hold(), (5,)), never, thing)
            with self.assertRaises(NoNumber):
                ran(hold(), behind(hold(), (5,), 6), upwards, thing)

    def test_100000_steps(self):
        one = program((("body", 1, (), (0,)),), ("back", 1), [
            (0, (NUM,), NUM, ((("print", 0), ("num", 1), ("sum", 0, 2), ("body", 1, (), (3,))), ("back", 4)))])
        state = ran(one, begun(one, (1,)), upwards, 100000)
        self.assertEqual(state[2], plain(one, (1,), 100000)[0])
        self.assertEqual(len(state[0]), 25001)

    def test_many_cells(self):
        one = program((("body", 1, (), (0,)),), ("back", 1), [
            (0, (NUM,), NUM, ((("box", 0), ("body", 1, (), (0,))), ("back", 2)))])
        state = ran(one, begun(one, (1,)), upwards, 10000)
        self.assertEqual(state[1], tuple((place, (1,)) for place in range(100, 5100)))


class PlacersTest(unittest.TestCase):
    def test_what_a_placer_is_handed(self):
        handed = []

        def placer(places):
            handed.append(places)
            return (5, -3, 10 ** 39, 0)[len(handed) - 1]
        one = program((("box", 0), ("num", 1), ("row", (0,)), ("open", 1), ("box", 0), ("box", 0)), ("back", 0))
        state = ran(one, begun(one, (7,)), placer, 100)
        self.assertEqual(handed, [(), (5,), (-3, 5), (-3, 5, 10 ** 39)])
        self.assertEqual(state[1], ((-3, (7,)), (0, (7,)), (5, (7,)), (10 ** 39, (7,))))
        self.assertTrue(all(type(places) is tuple for places in handed))

    def test_a_placer_is_called_just_ahead_of_a_making(self):
        one = program((("num", 1), ("box", 0)), ("back", 0))
        self.assertEqual(ran(one, begun(one, (7,)), never, 1), behind(one, (7,), 1))
        with self.assertRaises(AssertionError):
            ran(one, begun(one, (7,)), never, 2)

    def test_bad_placer(self):
        one = program((("num", 1), ("box", 0), ("print", 0), ("row", (0, 0))), ("back", 0))
        state = begun(one, (7,))
        for thing in [thing for thing in odd_things() if type(thing) is not int]:
            for most in (2, 3, 100000):
                with self.assertRaises(BadPlacer) as caught:
                    ran(one, state, lambda places, thing=thing: thing, most)
                self.assertEqual(caught.exception.number, 1)
            self.assertEqual(ran(one, state, lambda places, thing=thing: thing, 1), behind(one, (7,), 1))

    def test_bad_placer_for_a_place_that_is_taken(self):
        one = program((("num", 1), ("box", 0), ("print", 0), ("row", (0, 0))), ("back", 0))
        for place in (0, 4, -10 ** 39):
            with self.assertRaises(BadPlacer) as caught:
                ran(one, begun(one, (7,)), lambda places: place, 4)
            self.assertEqual(caught.exception.number, 3)
            behind_two = ran(one, begun(one, (7,)), lambda places: place, 2)
            with self.assertRaises(BadPlacer) as caught:
                ran(one, behind_two, lambda places: place, 4)
            self.assertEqual(caught.exception.number, 1)
            self.assertEqual(ran(one, begun(one, (7,)), lambda places: place, 3)[2], (7,))

    def test_own_errors_of_placers_go_on(self):
        class Own(Exception):
            pass
        for error in (Own, ValueError, KeyError, StopIteration, RecursionError, BadPlacer):
            def placer(places):
                raise error(77)
            with self.assertRaises(error) as caught:
                ran(hold(), begun(hold(), (5,)), placer, 100)
            self.assertEqual(caught.exception.__dict__.get("number", 77), 77)

    def test_a_failed_call_leaves_the_state(self):
        one = program((("box", 0), ("put", 1, 0), ("box", 0)), ("back", 0))
        state = behind(one, (5,), 1)
        with self.assertRaises(BadPlacer):
            ran(one, state, lambda places: None, 100)
        self.assertEqual(state, (((0, (1,), (5, 100)),), ((100, (5,)),), ()))

    def test_drawn_places(self):
        for seed in range(30):
            chance = random.Random(seed)

            def placer(places):
                while True:
                    place = chance.choice([chance.randint(-9, 30), chance.randint(-10 ** 39, 10 ** 39)])
                    if place not in places:
                        return place
            one = counting()
            said, is_over = plain(one, (6,), 100000)
            state = ran(one, begun(one, (6,)), placer, 100000)
            self.assertEqual((state[2], not state[0]), (said, is_over))
            self.assertEqual(list(state[1]), sorted(state[1]))

    def test_next_state_does_the_same(self):
        for placer in PLACERS:
            one = using()
            state = begun(one, (5,))
            while state[0]:
                place = placer(tuple(place for place, _ in state[1])) if is_making(one, state) else "none"
                ahead, state = state, next_state(one, state, place)
                self.assertEqual(ran(one, ahead, placer, 1), state)


if __name__ == "__main__":
    unittest.main()
