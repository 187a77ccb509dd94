"""States of programs made by chance: what is told of them against what the document says in short."""

import unittest

from barewords.kindings import is_kinding
from barewords.machine import begun, ran
from barewords.plain import plain
from barewords.sources import sources, told_by, tellers
from barewords.telling import blank, general, met, open_spots, told
from naive_telling import (
    Guess, Wrong, naive_blank, naive_general, naive_is_kinding, naive_sources, naive_tellers, naive_told_by)
from runs import samples, states
from samples import NIL, NUM, box, row
from states import PLACERS, upwards


class MachineTest(unittest.TestCase):
    def test_runs_say_what_plain_says(self):
        over = 0
        for sample, inputs, chance in samples(0, 150):
            for most in (0, 1, chance.randrange(40), 300):
                said, is_over = plain(sample, inputs, most)
                for placer in PLACERS:
                    state = ran(sample, begun(sample, inputs), placer, most)
                    self.assertEqual((state[2], not state[0]), (said, is_over))
                over += is_over
        self.assertGreater(over, 50)


class TellingTest(unittest.TestCase):
    def test_what_is_told(self):
        seen = {"letters": 0, "unmet": 0, "waits": 0, "open": 0}
        for sample, inputs, chance in samples(1000, 150):
            for state in states(sample, inputs, chance):
                guess = Guess(sample, state)
                self.assertEqual(met(sample, state), tuple(sorted(guess.cells)))
                self.assertEqual(told(sample, state), guess.heads())
                spots = sorted(set(guess.spots) - set(guess.heads()))
                self.assertEqual(open_spots(sample, state), spots)
                kinding = blank(sample, state)
                self.assertEqual(kinding, naive_blank(sample, state))
                self.assertEqual(general(sample, state), naive_general(sample, state))
                self.assertIs(is_kinding(sample, state, kinding), True)
                self.assertTrue(naive_is_kinding(sample, state, kinding))
                seen["letters"] += "letter" in str(general(sample, state))
                seen["unmet"] += len(kinding[1]) < len(state[1])
                seen["waits"] += len(state[0]) > 1
                seen["open"] += bool(spots)
        self.assertTrue(all(many > 30 for many in seen.values()), seen)

    def test_open_words_are_never_looked_into(self):
        exchanged = 0
        for sample, inputs, chance in samples(2000, 120):
            for state in states(sample, inputs, chance, share=0.15):
                spots = open_spots(sample, state)
                words = {spot: chance.choice([0, 1, 10 ** 30, -7, *[place for place, _ in state[1]]]) for spot in spots}
                pile = tuple((body, point, tuple(
                    words.get(("pile", frame, at), word) for at, word in enumerate(those)))
                    for frame, (body, point, those) in enumerate(state[0]))
                cells = {place: tuple(words.get(("heap", place, at), word) for at, word in enumerate(cell))
                         for place, cell in state[1]}
                kept = set(met(sample, state))
                heap = tuple((place, cell) for place, cell in sorted(cells.items()) if place in kept)
                other = (pile, heap, state[2])
                exchanged += bool(spots)
                one = ran(sample, state, lambda places: len(places) + 1000, 200)
                two = ran(sample, other, lambda places: 2 * len(places) + 10 ** 6, 200)
                self.assertEqual(one[2], two[2])
                self.assertEqual([frame[:2] for frame in one[0]], [frame[:2] for frame in two[0]])
                self.assertEqual(told(sample, other), told(sample, state))
                self.assertEqual(blank(sample, other), blank(sample, state))
        self.assertGreater(exchanged, 50)


class KindingsTest(unittest.TestCase):
    def other_kinding(self, sample, state, chance):
        """A kinding with other kinds for what is free, with further cells where words ask for them."""
        kinds = [NUM, NIL, box(NUM), row(NUM), row(NIL, NUM), row(NUM, NUM), *[kind for kind, _ in blank(
            sample, state)[1].values()]]
        many = Guess(sample, state).many
        chosen = [(letter, chance.choice(kinds)) for letter in range(1, many + 1) if chance.random() < 0.3]
        try:
            guess = Guess(sample, state, None, chosen)
        except Wrong:
            return None
        names = {}
        return guess.kinding(lambda letter: names.setdefault(letter, chance.choice([NUM, NIL])))

    def test_told_spots_have_their_heads_in_every_kinding(self):
        unlike = 0
        for sample, inputs, chance in samples(3000, 100):
            for state in states(sample, inputs, chance):
                for _ in range(4):
                    kinding = self.other_kinding(sample, state, chance)
                    if kinding is None:
                        continue
                    self.assertTrue(naive_is_kinding(sample, state, kinding))
                    self.assertIs(is_kinding(sample, state, kinding), True)
                    self.assertLessEqual(set(met(sample, state)), set(kinding[1]))
                    unlike += kinding != blank(sample, state)
        self.assertGreater(unlike, 100)

    def test_kindings_with_something_exchanged(self):
        right = wrong = 0
        for sample, inputs, chance in samples(4000, 100):
            for state in states(sample, inputs, chance, share=0.2):
                kinding = self.other_kinding(sample, state, chance) or blank(sample, state)
                for _ in range(12):
                    thing = exchanged(chance, kinding)
                    expected = naive_is_kinding(sample, state, thing)
                    self.assertIs(is_kinding(sample, state, thing), expected)
                    right += expected
                    wrong += not expected
        self.assertGreater(right, 100)
        self.assertGreater(wrong, 1000)


def kinds_of(kinding):
    letters, cells = kinding
    found = [NUM, NIL, box(NIL), row(NUM), ("letter", 0), None, [NUM], (), True, ("data", 0, ())]
    found.extend(kind for frame in letters for kind in frame)
    found.extend(kind for kind, _ in cells.values())
    return found


def exchanged(chance, kinding):
    """A kinding with one thing in it changed."""
    letters, cells = kinding
    cells = dict(cells)
    what = chance.randrange(6)
    frames = [at for at, kinds in enumerate(letters) if kinds]
    if what < 2 and frames:
        at = chance.choice(frames)
        kinds = list(letters[at])
        kinds[chance.randrange(len(kinds))] = chance.choice(kinds_of(kinding))
        return letters[:at] + (tuple(kinds),) + letters[at + 1:], cells
    if what < 5 and cells:
        place = chance.choice(sorted(cells))
        kind, kinds = cells.pop(place)
        if what == 2:
            cells[place] = (chance.choice(kinds_of(kinding)), kinds)
        elif what == 3 and kinds:
            at = chance.randrange(len(kinds))
            cells[place] = (kind, kinds[:at] + (chance.choice(kinds_of(kinding)),) + kinds[at + 1:])
        elif what == 4 and chance.random() < 0.5:
            cells[place] = (kind, kinds + (NUM,))
        return letters, cells
    cells[chance.randrange(-99, 400)] = (chance.choice(kinds_of(kinding)), ())
    return letters, cells


class SourcesTest(unittest.TestCase):
    def test_sources_and_lots(self):
        least = {}
        for sample, inputs, chance in samples(5000, 150):
            for state in states(sample, inputs, chance):
                there = sources(sample, state)
                self.assertEqual(there, naive_sources(sample, state))
                lot = tuple(at for at in range(len(there)) if chance.random() < 0.5)
                self.assertEqual(told_by(sample, state, lot), naive_told_by(sample, state, lot))
                heads = told(sample, state)
                self.assertEqual(told_by(sample, state, tuple(range(len(there)))), heads)
                hidden = sorted(set(heads) - set(told_by(sample, state, ())))
                if hidden and len(there) <= 6:
                    spot = chance.choice(hidden)
                    lots = tellers(sample, state, spot)
                    self.assertEqual(lots, naive_tellers(sample, state, spot))
                    sizes = tuple(map(len, lots))
                    least[sizes] = least.get(sizes, 0) + 1
        self.assertGreater(len(least), 1, least)


class PlacersTest(unittest.TestCase):
    def test_unlike_placers(self):
        for sample, inputs, chance in samples(6000, 60):
            most = chance.randrange(5, 60)
            answers = []
            for placer in (upwards, *PLACERS):
                state = ran(sample, begun(sample, inputs), placer, most)
                answers.append((
                    {spot: head for spot, head in told(sample, state).items() if spot[0] == "pile"},
                    [spot for spot in open_spots(sample, state) if spot[0] == "pile"],
                    len(met(sample, state)), general(sample, state)[0]))
            self.assertTrue(all(answer == answers[0] for answer in answers))


if __name__ == "__main__":
    unittest.main()
