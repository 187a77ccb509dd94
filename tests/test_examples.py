"""The document's examples, as they stand there."""

import unittest

from barewords.kinds import filled, matched
from barewords.plain import plain
from barewords.programs import Program, kinds_at, points

hold = Program((), ((0, (("num",),), ("num",), ((("take", 1, (("num",),), (0, 0)), ("call", 1, (0,))), ("back", 2))), (1, (("letter", 0), ("num",), ("num",)), ("num",), ((("box", 0), ("sum", 1, 2)), ("back", 4)))))


class ExamplesTest(unittest.TestCase):
    def test_e01(self):
        self.assertEqual(
            filled(("fun", (("letter", 0),), ("box", ("letter", 1))), (("num",), ("nil",))),
            ("fun", (("num",),), ("box", ("nil",))))
        self.assertEqual(
            matched(("row", (("letter", 0), ("num",))), ("row", (("nil",), ("num",)))), {0: ("nil",)})

    def test_e02(self):
        self.assertEqual(points(hold, 0), [(0,), (1,), (2,)])
        self.assertEqual(kinds_at(hold, 0, (1,)), (("num",), ("fun", (("num",),), ("num",))))

    def test_e03(self):
        self.assertEqual(plain(hold, (5,), 100), ((10,), True))
        self.assertEqual(plain(hold, (5,), 5), ((), False))


if __name__ == "__main__":
    unittest.main()
