"""What is told, against going through every kinding that has just a few kinds in it."""

import unittest

from barewords.machine import begun, ran
from barewords.programs import Program
from barewords.sources import sources, told_by
from barewords.telling import met, told
from naive_telling import told_in_all
from samples import A, NIL, NUM, box, fun, hold, main, row
from states import NUMBERS, lists, nested, upwards, using

PAIR = row(NUM, NUM)


def boxes():
    """Body 1 has boxes of a letter, one of which another frame knows."""
    return Program((), (
        main((("box", 0), ("take", 1, (NUM,), (1,)), ("nil",), ("call", 2, (0,))), ("back", 4)),
        (1, (box(A), NUM), NUM, ((("open", 0), ("box", 2)), ("back", 1)))))


SAMPLES = (
    (hold, (5,), range(7), (NUM, NIL, NUMBERS, box(NUM), box(NIL))),
    (nested, (5,), range(10), (NUM, NIL, NUMBERS, box(NUM), box(NUMBERS))),
    (using, (5,), range(13), (NUM, NIL, PAIR, NUMBERS, fun([PAIR], NUM))),
    (using, (0,), (6, 10, 11, 12), (NUM, NIL, PAIR, NUMBERS, fun([NIL], NUM))),
    (boxes, (5,), range(9), (NUM, NIL, box(NUM), box(NIL), NUMBERS)),
    (lists, (5,), (0, 1, 2), (NUM, NIL, box(NUM))))


def states():
    for sample, inputs, steps, kinds in SAMPLES:
        for many in steps:
            one = sample()
            yield one, ran(one, begun(one, inputs), upwards, many), kinds


class SmallWorldsTest(unittest.TestCase):
    def test_told_and_met(self):
        for sample, state, kinds in states():
            cells, heads = told_in_all(sample, state, kinds)
            self.assertEqual(met(sample, state), cells)
            self.assertEqual(told(sample, state), heads)

    def test_told_by(self):
        for sample, state, kinds in states():
            there = sources(sample, state)
            lots = [(), tuple(range(0, len(there), 2)), tuple(range(1, len(there), 2))]
            for lot in lots + [(at,) for at in range(len(there))]:
                asked = [there[at] for at in lot]
                heads = told_in_all(sample, state, kinds, asked)[1]
                self.assertEqual(told_by(sample, state, lot), {
                    spot: head for spot, head in heads.items() if spot[0] == "pile" or ("cell", spot[1]) in there})


if __name__ == "__main__":
    unittest.main()
