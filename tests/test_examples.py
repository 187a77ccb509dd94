"""The document's examples, as they stand there."""

import unittest

from barewords.kinds import filled, matched
from barewords.machine import begun, next_state
from barewords.plain import plain
from barewords.programs import Program, kinds_at, points
from barewords.telling import blank, general, met, open_spots, told
from barewords.texts import kind_text

hold = Program((), ((0, (("num",),), ("num",), ((("take", 1, (("num",),), (0, 0)), ("call", 1, (0,))), ("back", 2))), (1, (("letter", 0), ("num",), ("num",)), ("num",), ((("box", 0), ("sum", 1, 2)), ("back", 4)))))


class ExamplesTest(unittest.TestCase):
    def test_e01(self):
        self.assertEqual(
            filled(("fun", (("letter", 0),), ("box", ("letter", 1))), (("num",), ("nil",))),
            ("fun", (("num",),), ("box", ("nil",))))
        self.assertEqual(
            matched(("row", (("letter", 0), ("num",))), ("row", (("nil",), ("num",)))), {0: ("nil",)})

    def test_e02(self):
        self.assertEqual(points(hold, 0), [(0,), (1,), (2,)])
        self.assertEqual(kinds_at(hold, 0, (1,)), (("num",), ("fun", (("num",),), ("num",))))

    def test_e03(self):
        self.assertEqual(plain(hold, (5,), 100), ((10,), True))
        self.assertEqual(plain(hold, (5,), 5), ((), False))

    def test_e04(self):
        self.assertEqual(next_state(hold, begun(hold, (5,)), 7), (((0, (1,), (5, 7)),), ((7, (1, 5, 5)),), ()))

    def test_e05(self):
        s = next_state(hold, next_state(hold, begun(hold, (5,)), 7), None)
        self.assertEqual(s, (((0, (1,), (5, 7)), (1, (0,), (5, 5, 5))), ((7, (1, 5, 5)),), ()))
        self.assertEqual(told(hold, s), {
            ("pile", 0, 0): "num", ("pile", 0, 1): "fun", ("pile", 1, 1): "num", ("pile", 1, 2): "num",
            ("heap", 7, 2): "num"})
        self.assertEqual(open_spots(hold, s), [("heap", 7, 1), ("pile", 1, 0)])
        self.assertEqual(met(hold, s), (7,))

    def test_e06(self):
        s = next_state(hold, next_state(hold, begun(hold, (5,)), 7), None)
        self.assertEqual(blank(hold, s), (((), (("nil",),)), {7: (("fun", (("num",),), ("num",)), (("nil",),))}))
        self.assertEqual(general(hold, s), (
            ((), (("letter", 0),)), {7: (("fun", (("num",),), ("num",)), (("letter", 1),))}))

    def test_e07(self):
        self.assertEqual(kind_text(("data", 0, (("letter", 0),))), '#0(?0)')


if __name__ == "__main__":
    unittest.main()
