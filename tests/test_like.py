"""Like states: of which one comes by collecting, open words exchanged and cells put in; and others."""

import unittest

from barewords.collecting import collected, is_like
from barewords.desk import Desk
from barewords.errors import NoKind
from barewords.keeper import Keeper
from barewords.strangers import exchanged
from barewords.telling import open_spots
from naive_states import naive_is_like
from samples import boxed, counting, hold, NUM, odd_things, program, TRUTH
from states import PLACERS, behind, lists, nested, using

STATE = (((0, (1,), (5, 7)), (1, (0,), (5, 5, 5))), ((7, (1, 5, 5)),), (3,))


class LikeCase(unittest.TestCase):
    def check(self, sample, state, thing, expected):
        self.assertIs(is_like(sample, state, thing), expected)
        self.assertIs(naive_is_like(sample, state, thing), expected)


class RightTest(LikeCase):
    def test_the_state_itself(self):
        for sample, most in ((hold(), 6), (counting(), 30), (nested(), 9), (using(2), 12), (lists(), 18)):
            for steps in range(most + 1):
                state = behind(sample, (5,), steps)
                self.check(sample, state, state, True)

    def test_collected_by_several_placers(self):
        for sample, most in ((hold(), 6), (counting(), 30), (nested(), 9), (using(2), 12), (lists(), 18)):
            for steps in range(most + 1):
                state = behind(sample, (5,), steps)
                for placer in PLACERS:
                    other = collected(sample, state, placer)
                    self.check(sample, state, other, True)
                    for again in PLACERS:
                        self.check(sample, state, collected(sample, other, again), True)
                    # Dropped cells are garbage of the one, and put in from the other one's side.
                    self.check(sample, other, state, True)

    def test_open_words(self):
        for word in (0, -1, 7, 10 ** 39, 10 ** 100):
            other = exchanged(hold(), STATE, {("heap", 7, 1): word})
            self.check(hold(), STATE, other, True)
            self.check(hold(), STATE, exchanged(hold(), STATE, {("pile", 1, 0): word}), True)
            self.check(hold(), STATE, exchanged(hold(), other, {("pile", 1, 0): 8}), True)

    def test_cells_put_in(self):
        pile, heap, said = STATE
        for more in (((-7, (5,)),), ((6, ()), (8, (1, 5, 5))), ((10 ** 39, (9, 9, 9, 9)),)):
            self.check(hold(), STATE, (pile, tuple(sorted(heap + more)), said), True)

    def test_over(self):
        over = behind(hold(), (5,), 6)
        for heap in ((), over[1], ((1, ()), (2, (3,)))):
            self.check(hold(), over, ((), heap, (10,)), True)
        for thing in (((), (), ()), ((), (), (11,)), ((), (), (10, 10)), (STATE[0], STATE[1], (10,)), ((), ((), ), (10,))):
            self.check(hold(), over, thing, False)


class OneThingChangedTest(LikeCase):
    def changed(self, pile=STATE[0], heap=STATE[1], said=STATE[2]):
        self.check(hold(), STATE, (pile, heap, said), False)

    def test_told_numbers(self):
        one, two = STATE[0]
        self.changed(pile=((0, (1,), (6, 7)), two))
        self.changed(pile=(one, (1, (0,), (5, 6, 5))))
        self.changed(pile=(one, (1, (0,), (5, 5, 6))))
        self.changed(heap=((7, (1, 5, 6)),))

    def test_met_cells_gone(self):
        self.changed(heap=())
        self.changed(heap=((8, (1, 5, 5)),))
        self.changed(pile=((0, (1,), (5, 8)), STATE[0][1]))
        state = behind(using(2), (5,), 6)
        for at in range(4):
            self.check(using(2), state, (state[0], state[1][:at] + state[1][at + 1:], state[2]), False)

    def test_two_met_cells_at_one_place(self):
        sample = program((("box", 0), ("box", 0), ("num", 1)), ("back", 3))
        state = behind(sample, (5,), 3)
        self.assertEqual(state, (((0, (3,), (5, 100, 101, 1)),), ((100, (5,)), (101, (5,))), ()))
        for words, expected in (((5, 100, 101, 1), True), ((5, 101, 100, 1), True), ((5, 100, 100, 1), False),
                                ((5, 101, 101, 1), False)):
            self.check(sample, state, (((0, (3,), words),), state[1], ()), expected)
        # One cell at two places.
        sample = program((("box", 0), ("row", (1, 1)), ("num", 1)), ("back", 3))
        state = behind(sample, (5,), 3)
        self.assertEqual(state, (((0, (3,), (5, 100, 101, 1)),), ((100, (5,)), (101, (100, 100))), ()))
        heap = ((100, (5,)), (101, (100, 102)), (102, (5,)))
        self.check(sample, state, (state[0], heap, ()), False)
        self.check(sample, state, (((0, (3,), (5, 102, 101, 1)),), ((100, (5,)), (101, (102, 102)), (102, (5,))), ()), True)

    def test_first_words(self):
        self.changed(heap=((7, (0, 5, 5)),))
        self.changed(heap=((7, (2, 5, 5)),))
        sample = program((("way", 0, (), 1, ()), ("num", 1)), ("back", 2), book=(TRUTH,))
        state = behind(sample, (5,), 2)
        self.assertEqual(state[1], ((100, (1,)),))
        for word in (0, 2, -1):
            self.check(sample, state, (state[0], ((100, (word,)),), ()), False)
        # A box and a row have no first words of that sort.
        sample = program((("nil",), ("box", 1), ("row", (1, 0))), ("back", 0))
        state = behind(sample, (5,), 3)
        self.check(sample, state, (state[0], ((100, (9,)), (101, (9, 5))), ()), True)
        self.check(sample, state, (state[0], ((100, (0,)), (101, (0, 6))), ()), False)

    def test_how_many_words(self):
        self.changed(heap=((7, (1, 5)),))
        self.changed(heap=((7, (1, 5, 5, 5)),))
        self.changed(heap=((7, ()),))
        one, two = STATE[0]
        self.changed(pile=((0, (1,), (5,)), two))
        self.changed(pile=(one, (1, (0,), (5, 5))))
        self.changed(pile=(one, (1, (0,), (5, 5, 5, 5))))

    def test_points_bodies_frames_and_said(self):
        one, two = STATE[0]
        self.changed(pile=((0, (2,), (5, 7)), two))
        self.changed(pile=((0, (0,), (5, 7)), two))
        self.changed(pile=((1, (1,), (5, 7)), two))
        self.changed(pile=(one, (1, (0, 0), (5, 5, 5))))
        self.changed(pile=(one,))
        self.changed(pile=(two,))
        self.changed(pile=())
        self.changed(pile=(one, two, two))
        for said in ((), (4,), (3, 3), (3, 4)):
            self.changed(said=said)

    def test_heaps_that_are_none(self):
        cell = (1, 5, 5)
        for heap in (((7, cell), (7, cell)), ((8, cell), (7, cell)), ((7, cell), (6, cell)), ((7,),), ((7, cell, ()),),
                     (7, cell), {7: cell}, ((7, (True, 5, 5)),), ((7, [1, 5, 5]),), [(7, cell)], ([7, cell],),
                     ((7, cell), (8, 5)), ((7, cell), ("8", ())), ((True, ()), (7, cell)), ((7, cell), (8, (None,)))):
            self.changed(heap=heap)

    def test_flags_and_lists(self):
        one, two = STATE[0]
        for pile in ([one, two], ([0, (1,), (5, 7)], two), ((0, [1], (5, 7)), two), ((0, (1,), [5, 7]), two),
                     ((False, (1,), (5, 7)), two), ((0, (True,), (5, 7)), two), (one, (1, (0,), (True, 5, 5))),
                     (one, (True, (0,), (5, 5, 5))), (one, (1, (False,), (5, 5, 5))), (one, (1, 0, (5, 5, 5))), None,
                     (one, (1, (0,), (5, 5, 5), ())), (one, (1, (0,))), (one, None)):
            self.changed(pile=pile)
        for said in ([3], (True,), (None,), 3, "3", ((3,),)):
            self.changed(said=said)
        one = (STATE[0], STATE[1], (1, 0))
        self.check(hold(), one, (STATE[0], STATE[1], (True, 0)), False)
        self.check(hold(), one, (STATE[0], STATE[1], (1, False)), False)
        flag = behind(program((), ("back", 0)), (1,), 0)
        self.check(program((), ("back", 0)), flag, (((0, (0,), (True,)),), (), ()), False)

    def test_other_objects(self):
        things = odd_things() + [list(STATE), STATE[:2], (*STATE, ()), (STATE,), boxed(NUM, 59), Keeper, Desk(), NoKind(),
                                 Keeper(hold(), (5,), 1)]
        for thing in things:
            self.assertIs(is_like(hold(), STATE, thing), False)
            for at in range(3):
                other = list(STATE)
                if thing == () and at == 1:
                    continue
                other[at] = thing
                self.assertIs(is_like(hold(), STATE, tuple(other)), False)

    def test_many_things(self):
        deep = STATE
        for _ in range(57):
            deep = (deep,)
        self.check(hold(), STATE, deep, False)
        wide = (STATE[0], STATE[1] + tuple((place, (1,)) for place in range(8, 5000)), STATE[2])
        self.check(hold(), STATE, wide, True)


class LinksTest(LikeCase):
    def test_links_must_agree_everywhere(self):
        sample = counting()
        state = behind(sample, (5,), 33)
        self.assertGreater(len(state[1]), 3)
        moved = collected(sample, state, lambda places: -1 - len(places))
        self.check(sample, state, moved, True)
        opened = open_spots(sample, state)
        self.assertEqual(opened, [("pile", 0, 1)])
        for at, (body, point, words) in enumerate(state[0]):
            for place, word in enumerate(words):
                for other in (word + 1, 0, 100, 103):
                    frames = list(state[0])
                    frames[at] = (body, point, words[:place] + (other,) + words[place + 1:])
                    thing = (tuple(frames), state[1], state[2])
                    self.check(sample, state, thing, other == word or ("pile", at, place) in opened)
        for at, (where, words) in enumerate(state[1]):
            for place, word in enumerate(words):
                for other in (word + 1, 100, 103):
                    cells = list(state[1])
                    cells[at] = (where, words[:place] + (other,) + words[place + 1:])
                    thing = (state[0], tuple(cells), state[2])
                    self.assertIs(is_like(sample, state, thing), naive_is_like(sample, state, thing))


if __name__ == "__main__":
    unittest.main()
