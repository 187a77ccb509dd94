"""What others would keep: by looks, by the links of a kinding, and at each making of a run."""

import unittest

from barewords.errors import BadPlacer, NoInputs, NoKinding, NoNumber
from barewords.machine import begun, is_making, ran
from barewords.strangers import by_links, by_looks, ran_keeping
from barewords.telling import blank, general, met
from naive_states import naive_by_links, naive_by_looks
from samples import NIL, NUM, box, boxed, counting, data, hold, odd_things, program, row
from states import NUMBERS, PLACERS, behind, deeper, like_numbers, lists, nested, upwards, using


class LooksTest(unittest.TestCase):
    def test_links_from_the_frames_on(self):
        state = (((0, (0,), (5, 7)), (1, (0,), (20,))), (
            (5, (6, 6)), (6, (5,)), (8, (7,)), (9, ()), (20, (0, 21)), (21, (-30,)), (22, (5,))), (9, 22))
        self.assertEqual(by_looks(state), (5, 6, 20, 21))
        self.assertEqual(naive_by_looks(state), (5, 6, 20, 21))

    def test_none(self):
        self.assertEqual(by_looks(((), (), ())), ())
        self.assertEqual(by_looks(((), ((5, (5,)),), (5,))), ())
        self.assertEqual(by_looks(begun(hold(), (5,))), ())

    def test_a_number_that_looks_like_a_link(self):
        sample = program((("box", 0), ("num", 1)), ("back", 2))
        for number, places in ((100, (100,)), (-5, (100,))):
            self.assertEqual(by_looks(behind(sample, (number,), 2)), places)
        state = (((0, (2,), (100, 7, 1)),), ((7, (100,)), (100, (3,)), (200, (7,))), ())
        self.assertEqual((by_looks(state), met(sample, state)), ((7, 100), (7,)))

    def test_long_chains(self):
        cells = tuple((place, (place + 1,)) for place in range(20000))
        self.assertEqual(by_looks((((0, (0,), (5,)),), cells, ())), tuple(range(5, 20000)))


class LinksTest(unittest.TestCase):
    def test_by_blank(self):
        for sample, most in ((hold(), 6), (counting(), 30), (nested(), 9), (using(2), 12), (lists(), 18)):
            for steps in range(most + 1):
                state = behind(sample, (5,), steps)
                self.assertEqual(by_links(sample, state, blank(sample, state)), met(sample, state))

    def test_by_other_kindings(self):
        sample = nested()
        state = behind(sample, (5,), 5)
        outer = (NUMBERS, (NUMBERS,))
        self.assertEqual(by_links(sample, state, blank(sample, state)), (101,))
        self.assertEqual(
            by_links(sample, state, (((), (NUMBERS,)), {100: (NUMBERS, (NIL,)), 101: outer})), (100, 101))
        # Cells with kinds are kept only if a link leads to them.
        inner = {100: (NUMBERS, (NUM,)), 101: (NUMBERS, (NIL,))}
        self.assertEqual(by_links(sample, state, (((), (NIL,)), inner)), (101,))
        self.assertEqual(by_links(sample, state, (((), (NUMBERS,)), inner)), (100, 101))

    def test_links_in_cells_that_are_not_met(self):
        sample = lists()
        state = behind(sample, (5,), 12)
        thing = data(1, NUM, box(NUM))
        cells = {100: (box(NUM), ()), 101: (thing, ()), 102: (thing, ())}
        cells.update({place: (data(0, thing), ()) for place in (103, 104, 105)})
        kinding = (((), (thing,), (thing,)), {**cells, 106: (NUMBERS, (thing,))})
        self.assertEqual(by_links(sample, state, blank(sample, state)), (103, 104, 105, 106))
        self.assertEqual(by_links(sample, state, kinding), tuple(range(100, 107)))
        self.assertEqual(naive_by_links(sample, state, kinding), tuple(range(100, 107)))

    def test_over(self):
        over = behind(hold(), (5,), 6)
        self.assertEqual(by_links(hold(), over, ((), {})), ())
        self.assertEqual(by_links(hold(), over, ((), {101: (box(NUM), ())})), ())

    def test_no_kinding(self):
        sample = nested()
        state = behind(sample, (5,), 5)
        outer = (NUMBERS, (NUMBERS,))
        things = odd_things() + [
            ((), {}), (((), (NIL,)), {}), (((), (NIL,)), {101: outer}), (((),), {}), [((), (NIL,)), {101: outer}],
            general(sample, state) + (1,), (((), (box(NUM),)), {100: (NUMBERS, (NIL,)), 101: outer}),
            (((), (("letter", 0),)), {100: (NUMBERS, (NIL,)), 101: outer}), (((), (boxed(NUM, 59),)), {101: outer})]
        for thing in things:
            with self.assertRaises(NoKinding):
                by_links(sample, state, thing)

    def test_great_kindings(self):
        sample = deeper(4)
        state = behind(sample, (5,), 8)
        kind = NUM
        kinds = []
        for _ in range(8):
            kinds.append((kind,))
            kind = row(kind, kind, kind, kind)
        self.assertEqual(by_links(sample, state, (((), *kinds), {})), ())
        with self.assertRaises(NoKinding):
            by_links(sample, state, (((), *kinds[:-1], (NIL,)), {}))


def naive_keeping(sample, inputs, placer, most):
    found = []
    for done in range(most):
        state = ran(sample, begun(sample, inputs), placer, done)
        if is_making(sample, state):
            found.append((len(state[1]), len(naive_by_looks(state)), len(met(sample, state))))
    return tuple(found)


class RanKeepingTest(unittest.TestCase):
    def test_each_making_that_is_done(self):
        for sample, inputs in ((hold, (5,)), (counting, (4,)), (nested, (5,)), (using, (5,)), (using, (0,)), (lists, (5,))):
            one = sample()
            for placer in PLACERS:
                for most in range(0, 36, 5):
                    self.assertEqual(ran_keeping(one, inputs, placer, most), naive_keeping(one, inputs, placer, most))

    def test_cut_at_a_stop(self):
        # The first and the second step, and the sixth, make cells; the third one of the body that is called, too.
        one = nested()
        self.assertEqual([is_making(one, behind(one, (5,), most)) for most in range(6)], [
            False, True, True, False, False, True])
        self.assertEqual([len(ran_keeping(one, (5,), upwards, most)) for most in range(8)], [0, 0, 1, 2, 2, 2, 3, 3])
        self.assertEqual(ran_keeping(one, (5,), upwards, 100), ((0, 0, 0), (1, 1, 1), (2, 2, 1)))
        self.assertEqual(ran_keeping(one, (5,), upwards, 0), ())

    def test_numbers_that_look_like_links(self):
        # Body 1 leaves two boxes behind, the second one at a place like its input.
        sample = program((("body", 1, (), (0,)), ("box", 0), ("box", 0)), ("back", 0), (
            (0, (NUM,), NUM, ((("box", 0), ("box", 1)), ("back", 0))),))
        self.assertEqual(ran_keeping(sample, (1,), like_numbers, 100), ((0, 0, 0), (1, 1, 1), (2, 2, 0), (3, 3, 1)))
        self.assertEqual(ran_keeping(sample, (0,), like_numbers, 100), ((0, 0, 0), (1, 1, 1), (2, 1, 0), (3, 2, 1)))
        self.assertEqual(ran_keeping(sample, (5,), like_numbers, 100), ((0, 0, 0), (1, 1, 1), (2, 0, 0), (3, 1, 1)))

    def test_errors_in_their_order(self):
        for inputs in [thing for thing in odd_things() if thing != (0,)]:
            with self.assertRaises(NoInputs):
                ran_keeping(hold(), inputs, upwards, None)
        for most in odd_things() + [-1, 100001]:
            with self.assertRaises(NoNumber):
                ran_keeping(hold(), (5,), upwards, most)

    def test_bad_placer(self):
        for number in range(3):
            for wrong in (None, True, "100", "taken"):
                left = [number]

                def placer(places):
                    left[0] -= 1
                    return upwards(places) if left[0] >= 0 else places[0] if wrong == "taken" and places else wrong
                with self.assertRaises(BadPlacer) as caught:
                    ran_keeping(nested(), (5,), placer, 100)
                self.assertEqual(caught.exception.number, number)

        def raises(places):
            raise KeyError(5)
        with self.assertRaises(KeyError):
            ran_keeping(nested(), (5,), raises, 100)


if __name__ == "__main__":
    unittest.main()
