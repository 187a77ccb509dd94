"""Keepers: led live, collected ahead of makings, with a journal."""

import unittest

from barewords.errors import BadPlacer, NoInputs, NoNumber
from barewords.images import image
from barewords.keeper import Keeper
from barewords.machine import begun, is_making
from barewords.plain import plain
from naive_states import naive_collected, naive_image
from naive_telling import naive_next
from samples import counting, hold, odd_things, program
from states import PLACERS, behind, downwards, lists, nested, upwards, using

SAMPLES = ((hold, (5,)), (counting, (5,)), (nested, (5,)), (using, (5,)), (using, (0,)), (lists, (5,)))


class NaiveKeeper:
    """What a keeper does, told by single steps."""

    def __init__(self, sample, inputs, each):
        self.sample, self.each, self.state = sample, each, begun(sample, inputs)
        self.records, self.makings, self.done, self.is_collected = [self.state], 0, 0, False

    def go(self, many, placer):
        ahead = len(self.state[2])
        for _ in range(many):
            if not self.state[0]:
                break
            place = None
            if is_making(self.sample, self.state):
                if (self.makings + 1) % self.each == 0 and not self.is_collected:
                    self.state = naive_collected(self.sample, self.state, placer)
                    self.records.append(self.state)
                    self.is_collected = True
                place = placer(tuple(place for place, _ in self.state[1]))
                self.makings += 1
                self.is_collected = False
            self.state = naive_next(self.sample, self.state, place)
            self.done += 1
        return self.state[2][ahead:]

    def journal(self):
        return "".join(naive_image(state) for state in self.records)


class KeeperCase(unittest.TestCase):
    def alike(self, keeper, naive):
        self.assertEqual(keeper.state(), naive.state)
        self.assertEqual(keeper.journal(), naive.journal())
        self.assertEqual(keeper.steps(), naive.done)
        self.assertIs(keeper.is_over(), not naive.state[0])


class GoTest(KeeperCase):
    def test_by_so_many_at_once(self):
        for sample, inputs in SAMPLES:
            one = sample()
            for each in (1, 2, 3, 20, 1000):
                for placer in PLACERS:
                    for many in (1, 2, 5, 7, 100000):
                        keeper, naive = Keeper(one, inputs, each), NaiveKeeper(one, inputs, each)
                        self.alike(keeper, naive)
                        calls = 0
                        while not keeper.is_over() and calls < 25:
                            self.assertEqual(keeper.go(many, placer), naive.go(min(many, 100), placer))
                            self.alike(keeper, naive)
                            calls += 1
                        said, is_over = plain(one, inputs, calls * many if many < 100 else many)
                        self.assertEqual((keeper.state()[2], keeper.is_over()), (said, is_over))

    def test_begun(self):
        keeper = Keeper(hold(), (5,), 1)
        self.assertEqual(keeper.state(), begun(hold(), (5,)))
        self.assertEqual(keeper.journal(), image(begun(hold(), (5,))))
        self.assertEqual(keeper.steps(), 0)
        self.assertIs(keeper.is_over(), False)

    def test_nothing_and_behind_the_end(self):
        keeper = Keeper(hold(), (5,), 1)
        self.assertEqual(keeper.go(0, None), ())
        self.assertEqual(keeper.state(), begun(hold(), (5,)))
        self.assertEqual(keeper.go(100, upwards), (10,))
        self.assertIs(keeper.is_over(), True)
        self.assertEqual(keeper.steps(), 6)
        state, journal = keeper.state(), keeper.journal()
        for many in (0, 1, 100000):
            self.assertEqual(keeper.go(many, None), ())
        self.assertEqual((keeper.state(), keeper.journal(), keeper.steps()), (state, journal, 6))

    def test_numbers_said_by_each_call(self):
        keeper = Keeper(counting(), (3,), 2)
        said = [keeper.go(1, upwards) for _ in range(60)]
        self.assertTrue(all(type(one) is tuple for one in said))
        self.assertEqual([one for one in said if one], [(3,), (6,)])
        self.assertEqual(said[0], (3,))
        keeper = Keeper(counting(), (3,), 2)
        self.assertEqual(keeper.go(100000, upwards), (3, 6))

    def test_records(self):
        keeper = Keeper(using(2), (5,), 2)
        # Steps 1, 3, 4 and 5 make cells; ahead of the second and the fourth one it is collected.
        for many, records in ((1, 1), (1, 1), (1, 1), (0, 1), (1, 2), (1, 2), (1, 3), (3, 3)):
            keeper.go(many, upwards)
            self.assertEqual(keeper.journal().count("said"), records)
        self.assertEqual(keeper.journal(), "".join(map(image, (
            begun(using(2), (5,)), behind(using(2), (5,), 3), behind(using(2), (5,), 5)))))

    def test_a_run_that_stops_just_ahead_of_a_making(self):
        keeper = Keeper(nested(), (5,), 1)
        keeper.go(1, None)
        self.assertEqual(keeper.journal().count("end"), 1)
        keeper.go(0, None)
        self.assertEqual(keeper.journal().count("end"), 1)
        keeper.go(1, upwards)
        self.assertEqual(keeper.journal().count("end"), 2)
        self.assertEqual(keeper.state(), behind(nested(), (5,), 2))

    def test_makings_are_counted_on_over_several_calls(self):
        for each in (2, 3):
            one = counting()
            keeper = Keeper(one, (8,), each)
            whole = Keeper(one, (8,), each)
            whole.go(1000, upwards)
            for _ in range(1000):
                keeper.go(1, upwards)
            self.assertEqual(keeper.journal(), whole.journal())
            self.assertEqual(keeper.journal().count("end"), 1 + 9 // each)

    def test_another_placer_for_each_call(self):
        keeper, naive = Keeper(counting(), (6,), 2), NaiveKeeper(counting(), (6,), 2)
        for at in range(20):
            placer = PLACERS[at % 3]
            self.assertEqual(keeper.go(3, placer), naive.go(3, placer))
            self.alike(keeper, naive)

    def test_what_was_returned_stays(self):
        keeper = Keeper(nested(), (5,), 1)
        keeper.go(3, upwards)
        state, journal = keeper.state(), keeper.journal()
        again = (state, journal)
        keeper.go(100, downwards)
        self.assertEqual((state, journal), again)
        self.assertIs(type(journal), str)
        self.assertNotEqual(keeper.state(), state)


class Failing:
    """A placer that fails at some of its calls."""

    def __init__(self, at, what):
        self.at, self.what, self.calls = at, what, []

    def __call__(self, places):
        self.calls.append(places)
        if len(self.calls) - 1 != self.at:
            return upwards(places)
        if self.what == "raise":
            raise KeyError(7)
        return places[0] if self.what == "taken" and places else None


class FailingPlacerTest(KeeperCase):
    def test_at_each_call(self):
        """A placer that fails once; what was done ahead stays done, and the keeper goes on behind it."""
        for sample, inputs in ((using, (5,)), (nested, (5,)), (counting, (3,)), (lists, (5,))):
            one = sample()
            for each in (1, 2, 3):
                at = 0
                while True:
                    for what in ("raise", "taken", "none"):
                        keeper = Keeper(one, inputs, each)
                        placer = Failing(at, what)
                        try:
                            keeper.go(1000, placer)
                        except KeyError:
                            self.assertEqual(what, "raise")
                        except BadPlacer as error:
                            self.assertEqual(error.number, at)
                            self.assertNotEqual(what, "raise")
                        else:
                            break
                        naive = NaiveKeeper(one, inputs, each)
                        with self.assertRaises(KeyError):
                            naive.go(1000, Failing(at, "raise"))
                        self.alike(keeper, naive)
                        said = keeper.state()[2]
                        self.assertEqual(keeper.go(1000, downwards), naive.go(1000, downwards))
                        self.alike(keeper, naive)
                        self.assertEqual(keeper.state()[2][:len(said)], said)
                        self.assertEqual((keeper.state()[2], True), plain(one, inputs, 1000))
                    else:
                        at += 1
                        continue
                    break
                self.assertGreater(at, 2)

    def test_a_collecting_is_not_done_once_more(self):
        one = program((("box", 0), ("box", 1), ("num", 2)), ("back", 3))
        keeper = Keeper(one, (5,), 1)
        keeper.go(1, upwards)
        # Told: one place in the collecting; then it fails at the making.
        for placer in (Failing(1, "none"), Failing(0, "none"), Failing(0, "raise"), Failing(0, "taken")):
            with self.assertRaises((BadPlacer, KeyError)) as caught:
                keeper.go(5, placer)
            if isinstance(caught.exception, BadPlacer):
                self.assertEqual(caught.exception.number, placer.at)
            self.assertEqual(keeper.journal().count("end"), 3)
            self.assertEqual(placer.calls[-1], (100,))
        placer = Failing(None, None)
        self.assertEqual(keeper.go(1, placer), ())
        self.assertEqual(placer.calls, [(100,)])
        self.assertEqual(keeper.journal().count("end"), 3)
        self.assertEqual(keeper.steps(), 2)

    def test_a_collecting_that_failed_is_done_whole(self):
        one = using(2)
        keeper = Keeper(one, (5,), 4)
        keeper.go(5, upwards)
        state = keeper.state()
        for at in range(3):
            for what in ("none", "raise", "taken"):
                placer = Failing(at, what)
                with self.assertRaises((BadPlacer, KeyError)) as caught:
                    keeper.go(1, placer)
                self.assertEqual(caught.exception.args, (7,) if what == "raise" else (at,))
                self.assertEqual((keeper.state(), keeper.steps()), (state, 5))
                self.assertEqual(keeper.journal(), image(begun(one, (5,))))
                self.assertEqual([len(places) for places in placer.calls], list(range(at + 1)))
        placer = Failing(3, "none")
        with self.assertRaises(BadPlacer):
            keeper.go(1, placer)
        self.assertEqual(keeper.journal(), image(begun(one, (5,))) + image(keeper.state()))

    def test_numbers_are_counted_in_each_call(self):
        keeper = Keeper(counting(), (5,), 1000)
        keeper.go(24, upwards)
        with self.assertRaises(BadPlacer) as caught:
            keeper.go(100, Failing(2, "none"))
        self.assertEqual(caught.exception.number, 2)
        with self.assertRaises(BadPlacer) as caught:
            keeper.go(100, Failing(0, "taken"))
        self.assertEqual(caught.exception.number, 0)

    def test_things_that_are_no_places(self):
        for thing in odd_things():
            if type(thing) is int:
                continue
            keeper = Keeper(hold(), (5,), 1)
            with self.assertRaises(BadPlacer) as caught:
                keeper.go(1, lambda places: thing)
            self.assertEqual((caught.exception.number, keeper.steps()), (0, 0))
            # Nothing was met, so the collecting was done.
            self.assertEqual(keeper.journal().count("end"), 2)


class ErrorsTest(unittest.TestCase):
    def test_no_inputs_ahead_of_no_number(self):
        for inputs in [thing for thing in odd_things() if thing != (0,)] + [(1, 2), (True,)]:
            for each in (1, 0, None):
                with self.assertRaises(NoInputs):
                    Keeper(hold(), inputs, each)
        for each in odd_things() + [0, -1, 1001]:
            with self.assertRaises(NoNumber):
                Keeper(hold(), (5,), each)
        for each in (1, 2, 1000):
            self.assertEqual(Keeper(hold(), (5,), each).steps(), 0)

    def test_no_number(self):
        keeper = Keeper(hold(), (5,), 1)
        for many in odd_things() + [-1, 100001]:
            with self.assertRaises(NoNumber):
                keeper.go(many, upwards)
        self.assertEqual((keeper.state(), keeper.steps()), (begun(hold(), (5,)), 0))
        keeper.go(100, upwards)
        with self.assertRaises(NoNumber):
            keeper.go(-1, None)


class CopyTest(KeeperCase):
    def test_copies_go_on_apart(self):
        for each in (1, 2, 3):
            for steps in range(12):
                keeper, naive = Keeper(using(2), (5,), each), NaiveKeeper(using(2), (5,), each)
                keeper.go(steps, upwards)
                naive.go(steps, upwards)
                other = keeper.copy()
                self.assertIs(type(other), Keeper)
                self.assertIsNot(other, keeper)
                self.assertNotEqual(other, keeper)
                self.alike(other, naive)
                third = other.copy()
                keeper.go(100, downwards)
                self.alike(other, naive)
                self.assertEqual(other.go(3, upwards), naive.go(3, upwards))
                self.alike(other, naive)
                self.assertEqual(third.steps(), min(steps, 12))
                self.assertEqual(keeper.state()[2], plain(using(2), (5,), 100)[0])

    def test_behind_a_collecting_whose_making_failed(self):
        one = program((("box", 0), ("box", 1), ("num", 2)), ("back", 3))
        keeper = Keeper(one, (5,), 1)
        keeper.go(1, upwards)
        with self.assertRaises(BadPlacer):
            keeper.go(1, Failing(1, "none"))
        other = keeper.copy()
        other.go(100, upwards)
        self.assertEqual(other.journal().count("end"), 3)
        self.assertEqual(keeper.steps(), 1)


class EqualTest(unittest.TestCase):
    def test_equal_to_nothing_else(self):
        keeper = Keeper(hold(), (5,), 1)
        self.assertEqual(keeper, keeper)
        for thing in odd_things() + [Keeper(hold(), (5,), 1), keeper.state()]:
            self.assertFalse(keeper == thing)
            self.assertTrue(keeper != thing)


if __name__ == "__main__":
    unittest.main()
