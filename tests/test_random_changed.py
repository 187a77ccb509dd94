"""Programs made by chance: collected, exchanged and loaded states, such with cells put in, and taken-over ones."""

import unittest

from barewords.collecting import collected, is_like, ran_collecting
from barewords.images import image, loaded, read_image
from barewords.kindings import is_kinding
from barewords.machine import begun, is_making, next_state, ran
from barewords.over import fault_of, retold, stands, takes_over
from barewords.plain import plain
from barewords.programs import Program
from barewords.sources import losses, sources, told_by
from barewords.strangers import by_links, by_looks, judged, ran_keeping
from barewords.telling import blank, general, met, open_spots, told
from changing import changed, numbers_exchanged, open_exchanged, put_in, scattered, with_one_other
from naive_states import (
    naive_by_links, naive_by_looks, naive_collected, naive_fault, naive_image, naive_is_like, naive_read, word_of)
from naive_telling import (
    Guess, naive_blank, naive_general, naive_is_kinding, naive_next, naive_sources, naive_told_by)
from runs import samples, states
from states import PLACERS, upwards


class ChangedTest(unittest.TestCase):
    def check_telling(self, sample, state, chance):
        guess = Guess(sample, state)
        heads = guess.heads()
        self.assertEqual(told(sample, state), heads)
        self.assertEqual(met(sample, state), tuple(sorted(guess.cells)))
        self.assertEqual(open_spots(sample, state), sorted(set(guess.spots) - set(heads)))
        kinding = blank(sample, state)
        self.assertEqual(kinding, naive_blank(sample, state))
        self.assertTrue(naive_is_kinding(sample, state, kinding))
        self.assertIs(is_kinding(sample, state, kinding), True)
        self.assertEqual(general(sample, state), naive_general(sample, state))
        there = sources(sample, state)
        self.assertEqual(there, naive_sources(sample, state))
        lot = tuple(at for at in range(len(there)) if chance.random() < 0.5)
        self.assertEqual(told_by(sample, state, lot), naive_told_by(sample, state, lot))
        if there:
            source = chance.choice(there)
            rest = tuple(at for at, one in enumerate(there) if one != source)
            self.assertEqual(losses(sample, state, source), sorted(set(heads) - set(naive_told_by(sample, state, rest))))

    def check_going_on(self, sample, state, chance):
        """The machine goes on as told, whatever open words are and wherever new cells come."""
        place = scattered(chance)(tuple(place for place, _ in state[1]))
        if state[0]:
            one = next_state(sample, state, place if is_making(sample, state) else None)
            self.assertEqual(one, naive_next(sample, state, place))
        other = put_in(open_exchanged(sample, collected(sample, state, scattered(chance)), chance), chance)
        for most in (1, 7, 150):
            ones = ran(sample, state, lambda places: 1000 + len(places), most)
            others = ran(sample, other, scattered(chance, -10 ** 9, 10 ** 9), most)
            self.assertEqual(ones[2], others[2])
            self.assertEqual([frame[:2] for frame in ones[0]], [frame[:2] for frame in others[0]])
            self.assertTrue(takes_over(sample, ones))

    def test_changed_states(self):
        many = 0
        for sample, inputs, chance in samples(7000, 100):
            for state in states(sample, inputs, chance, share=0.25):
                other = changed(sample, state, chance)
                self.assertIs(takes_over(sample, other), True)
                self.assertIs(is_like(sample, state, other), True)
                self.check_telling(sample, other, chance)
                self.check_going_on(sample, other, chance)
                many += other != state
        self.assertGreater(many, 100)

    def test_taken_over_states(self):
        many = 0
        for sample, inputs, chance in samples(8000, 150):
            for state in states(sample, inputs, chance, share=0.2):
                other = numbers_exchanged(sample, state, chance)
                for _ in range(3):
                    other = with_one_other(other, chance)
                    if naive_fault(sample, other) is None:
                        many += other[:2] != state[:2]
                        self.assertIs(takes_over(sample, other), True)
                        self.assertEqual(read_image(sample, image(other)), other)
                        self.check_telling(sample, other, chance)
                        self.check_going_on(sample, other, chance)
        self.assertGreater(many, 100)


class CollectedTest(unittest.TestCase):
    def test_collected(self):
        moved = dropped = 0
        for sample, inputs, chance in samples(9000, 100):
            for state in states(sample, inputs, chance, share=0.2):
                if chance.random() < 0.5:
                    state = changed(sample, state, chance)
                for placer in PLACERS:
                    other = collected(sample, state, placer)
                    self.assertEqual(other, naive_collected(sample, state, placer))
                    moved += other[1] != state[1]
                    dropped += len(other[1]) < len(state[1])
                    self.assertEqual(general(sample, other)[0], general(sample, state)[0])
                # A cell stays in its order among the others if places are told upwards.
                other = collected(sample, state, upwards)
                new = dict(zip(met(sample, state), met(sample, other)))
                self.assertEqual(blank(sample, other)[1], {
                    new[place]: pair for place, pair in blank(sample, state)[1].items()})

                def anew(spot):
                    return spot if spot[0] == "pile" else ("heap", new[spot[1]], spot[2])
                self.assertEqual(told(sample, other), {
                    anew(spot): head for spot, head in told(sample, state).items()})
                self.assertEqual(open_spots(sample, other), [anew(spot) for spot in open_spots(sample, state)])
        self.assertGreater(moved, 100)
        self.assertGreater(dropped, 100)

    def test_runs_say_what_plain_says(self):
        collectings = 0
        for sample, inputs, chance in samples(10000, 100):
            for most in (0, 1, chance.randrange(40), chance.randrange(40), 150):
                said = plain(sample, inputs, most)
                for each in (1, 2, 3, 1000):
                    for placer in (chance.choice(PLACERS), scattered(chance, 0, 10 ** 6)):
                        state, counts = ran_collecting(sample, inputs, placer, most, each)
                        self.assertEqual((state[2], not state[0]), said)
                        self.assertTrue(all(ahead >= behind for ahead, behind in counts))
                        collectings += len(counts)
        self.assertGreater(collectings, 1000)


class LikeTest(unittest.TestCase):
    def test_like_states_and_others(self):
        like = unlike = 0
        for sample, inputs, chance in samples(11000, 150):
            for state in states(sample, inputs, chance, share=0.15):
                self.assertIs(is_like(sample, state, state), True)
                for _ in range(6):
                    other = changed(sample, state, chance) if chance.random() < 0.5 else state
                    other = with_one_other(other, chance)
                    expected = naive_is_like(sample, state, other)
                    self.assertIs(is_like(sample, state, other), expected, (state, other))
                    like += expected
                    unlike += not expected
        self.assertGreater(like, 100)
        self.assertGreater(unlike, 800)

    def test_like_states_say_the_same(self):
        for sample, inputs, chance in samples(12000, 60):
            for state in states(sample, inputs, chance, share=0.15):
                other = changed(sample, state, chance)
                for most in (3, 30, 100):
                    one = ran(sample, state, upwards, most)
                    two = ran(sample, other, scattered(chance, 0, 10 ** 6), most)
                    self.assertIs(is_like(sample, one, collected(sample, two, upwards)), True)
                    self.assertEqual(is_like(sample, two, collected(sample, one, upwards)), True)

    def test_judged(self):
        right = unlike = 0
        for sample, inputs, chance in samples(13000, 80):
            most = chance.randrange(60)
            placer = chance.choice(PLACERS)
            verdict, state = judged(lambda one, ahead: changed(one, ahead, chance), sample, inputs, placer, most)
            self.assertEqual(verdict, "right")
            self.assertEqual((state[2], not state[0]), plain(sample, inputs, most))
            seen = []

            def careless(one, ahead):
                other = with_one_other(ahead, chance) if chance.random() < 0.3 else ahead
                seen.append(naive_is_like(one, ahead, other))
                return other
            verdict, what = judged(careless, sample, inputs, placer, most)
            if verdict == "right":
                self.assertTrue(all(seen))
                right += 1
            else:
                self.assertEqual(seen, [True] * what + [False])
                unlike += 1
        self.assertGreater(right, 10)
        self.assertGreater(unlike, 10)


class KeepingTest(unittest.TestCase):
    def test_what_others_would_keep(self):
        less = 0
        for sample, inputs, chance in samples(14000, 300):
            # Places that look like the numbers at hand.
            for state in states(sample, inputs, chance, share=0.2, places=range(-1, 60)):
                state = changed(sample, state, chance) if chance.random() < 0.5 else state
                kinding = blank(sample, state)
                looks = by_looks(state)
                self.assertEqual(looks, naive_by_looks(state))
                links = by_links(sample, state, kinding)
                self.assertEqual(links, naive_by_links(sample, state, kinding))
                self.assertEqual(links, met(sample, state))
                self.assertLessEqual(set(links), set(looks))
                less += len(links) < len(looks)
        self.assertGreater(less, 10)

    def test_runs(self):
        for sample, inputs, chance in samples(15000, 60):
            most = chance.randrange(60)
            placer = chance.choice(PLACERS)
            expected, state = [], begun(sample, inputs)
            for _ in range(most):
                if state[0] and is_making(sample, state):
                    expected.append((len(state[1]), len(naive_by_looks(state)), len(Guess(sample, state).cells)))
                state = ran(sample, state, placer, 1)
            self.assertEqual(ran_keeping(sample, inputs, placer, most), tuple(expected))


class OverTest(unittest.TestCase):
    def test_states_with_something_otherwise(self):
        seen = {"None": 0, "frame": 0, "kinds": 0}
        for sample, inputs, chance in samples(16000, 150):
            for state in states(sample, inputs, chance, share=0.2):
                self.assertIsNone(fault_of(sample, state))
                for _ in range(5):
                    other = with_one_other(state, chance)
                    expected = naive_fault(sample, other)
                    self.assertEqual(fault_of(sample, other), expected, other)
                    self.assertIs(takes_over(sample, other), expected is None)
                    self.assertIs(stands(sample, other), expected in (None, ("kinds",)))
                    seen[expected[0] if expected else "None"] += 1
        self.assertTrue(all(many > 200 for many in seen.values()), seen)

    def test_other_programs(self):
        over = 0
        unlike = [0, 0, 0]
        for sample, inputs, chance in samples(17000, 400):
            other = otherwise(sample, chance)
            for state in [] if other is None else states(sample, inputs, chance, share=0.2):
                fault = naive_fault(other, state)
                self.assertEqual(fault_of(other, state), fault)
                if fault is None:
                    over += 1
                    lots = retold(sample, other, state)
                    ones, others = Guess(sample, state).heads(), Guess(other, state).heads()
                    self.assertEqual(lots, (
                        tuple(sorted(set(ones.items()) & set(others.items()))) and tuple(
                            sorted(spot for spot, head in ones.items() if others.get(spot) == head)),
                        tuple(sorted(spot for spot in ones if others.get(spot, ones[spot]) != ones[spot])),
                        tuple(sorted(set(ones) ^ set(others)))))
                    unlike = [many + len(lot) for many, lot in zip(unlike, lots)]
                    one = open_exchanged(other, state, chance)
                    self.assertEqual(
                        ran(other, state, upwards, 100)[2],
                        ran(other, collected(other, one, scattered(chance, 0, 10 ** 6)), upwards, 100)[2])
        self.assertGreater(over, 100)
        self.assertGreater(unlike[0], 100)
        self.assertTrue(all(unlike), unlike)


def otherwise(sample, chance):
    """A right program that is much like this one, or None."""
    from made import much_like
    from naive import naive_part
    for _ in range(60):
        book, bodies = (much_like(chance, sample.book), sample.bodies) if chance.random() < 0.1 else (
            sample.book, much_like(chance, sample.bodies))
        if (book, bodies) != (sample.book, sample.bodies) and naive_part(book, bodies) is None:
            return Program(book, bodies)
    return None


class ImagesTest(unittest.TestCase):
    def test_there_and_back(self):
        for sample, inputs, chance in samples(18000, 100):
            for state in states(sample, inputs, chance, share=0.2):
                state = changed(sample, state, chance) if chance.random() < 0.5 else state
                text = image(state)
                self.assertEqual(text, naive_image(state))
                self.assertEqual(naive_read(text), (state, None))
                self.assertEqual(read_image(sample, text), state)
                self.assertEqual(loaded(sample, text, upwards), collected(sample, state, upwards))

    def test_word_of(self):
        state = (((0, (0,), (5, 6)),), ((7, (8,)),), ())
        self.assertEqual([word_of(state, spot) for spot in (("pile", 0, 1), ("heap", 7, 0))], [6, 8])


if __name__ == "__main__":
    unittest.main()
