"""Points, what stands there, and the tables."""

import unittest

from barewords.errors import NoBody, NoPoint
from barewords.programs import kinds_at, points, row_at
from samples import A, COUNTING, LISTS, NIL, NUM, counting, data, hold, odd_things, program, row

# A body with a letter whose blocks are three deep, with steps in each.
DEEP = (1, (data(0, A), NUM), NUM, (
    (("nil",),), ("look", 0, (
        ((), ("back", 1)),
        ((("row", (3, 2)), ("num", 7)), ("if", 6, (
            (("print", 1),), ("back", 6)), (
            (("part", 5, 0),), ("look", 4, (
                ((), ("back", 1)),
                ((("row", (7, 8)),), ("back", 1)))))))))))

POINTS = [
    (0,), (1,), (1, 0, 0), (1, 1, 0), (1, 1, 1), (1, 1, 2), (1, 1, 2, 0, 0), (1, 1, 2, 0, 1), (1, 1, 2, 1, 0),
    (1, 1, 2, 1, 1), (1, 1, 2, 1, 1, 0, 0), (1, 1, 2, 1, 1, 1, 0), (1, 1, 2, 1, 1, 1, 1),
]


def deep():
    return program((), ("back", 0), (DEEP,), (LISTS,))


def naive_points(block):
    steps, end = block
    found = [(at,) for at in range(len(steps) + 1)]
    within = {"back": (), "if": end[2:], "look": end[-1]}[end[0]]
    for number, inner in enumerate(within):
        found.extend((len(steps), number) + point for point in naive_points(inner))
    return found


class PointsTest(unittest.TestCase):
    def test_points(self):
        self.assertEqual(points(deep(), 1), POINTS)
        self.assertEqual(points(deep(), 0), [(0,)])
        self.assertEqual(points(counting(), 1), [(0,), (0, 0, 0), (0, 0, 1), (0, 1, 0), (0, 1, 1), (0, 1, 2)])
        self.assertEqual(points(counting(), 0), [(0,), (1,), (2,), (3,)])

    def test_ascending(self):
        for sample in (hold(), counting(), deep()):
            for body, told in enumerate(sample.bodies):
                found = points(sample, body)
                self.assertEqual(found, sorted(set(found)))
                self.assertEqual(found, naive_points(told[3]))

    def test_each_list_is_new(self):
        sample = deep()
        points(sample, 1).clear()
        self.assertEqual(points(sample, 1), POINTS)

    def test_no_body(self):
        for sample in (hold(), counting()):
            for thing in [*odd_things(), len(sample.bodies), 10 ** 39, (0,), "0", [0]]:
                with self.assertRaises(NoBody):
                    points(sample, thing)


class RowsTest(unittest.TestCase):
    def test_rows(self):
        rows = [row_at(deep(), 1, point) for point in POINTS]
        first = DEEP[3][1][2][1]
        second = first[1][3]
        self.assertEqual(rows, [
            ("nil",), DEEP[3][1], ("back", 1), ("row", (3, 2)), ("num", 7), first[1], ("print", 1), ("back", 6),
            ("part", 5, 0), second[1], ("back", 1), ("row", (7, 8)), ("back", 1)])

    def test_of_other_programs(self):
        self.assertEqual(row_at(hold(), 0, (0,)), ("take", 1, (NUM,), (0, 0)))
        self.assertEqual(row_at(hold(), 1, (2,)), ("back", 4))
        self.assertEqual(row_at(counting(), 2, (0,)), COUNTING[1][2][3][1])


class TablesTest(unittest.TestCase):
    def test_tables(self):
        start = (data(0, A), NUM)
        look = start + (NIL,)
        first = look + (A, data(0, A))
        end = first + (row(A, NIL), NUM)
        second = end + (A,)
        last = second + (A, data(0, A))
        self.assertEqual([kinds_at(deep(), 1, point) for point in POINTS], [
            start, look, look, first, first + (row(A, NIL),), end, end, end + (NIL,), end, second, second, last,
            last + (row(A, A),)])

    def test_letters_of_the_body(self):
        self.assertEqual(kinds_at(hold(), 1, (2,)), (A, NUM, NUM, ("box", A), NUM))
        self.assertEqual(kinds_at(hold(), 1, (0,)), (A, NUM, NUM))

    def test_kinds_put_in(self):
        lists = (data(0, NUM),)
        self.assertEqual(kinds_at(counting(), 1, (0, 0, 1)), lists + (NUM,))
        self.assertEqual(kinds_at(counting(), 1, (0, 1, 2)), lists + (NUM, data(0, NUM), NUM, NUM))
        self.assertEqual(kinds_at(counting(), 2, (0, 1, 1)), (NUM, data(0, NUM)))


class WrongPointsTest(unittest.TestCase):
    def test_no_body(self):
        for asked in (row_at, kinds_at):
            for thing in [*odd_things(), 2, 10 ** 39]:
                for point in ((0,), (9,), None):
                    with self.assertRaises(NoBody):
                        asked(hold(), thing, point)

    def test_odd_points(self):
        for asked in (row_at, kinds_at):
            for thing in odd_things():
                if thing != (0,):
                    with self.assertRaises(NoPoint):
                        asked(hold(), 0, thing)

    def test_no_point(self):
        for asked in (row_at, kinds_at):
            for point in [
                    (), (2,), (-1,), (True,), (False,), [0], [1], 0, 1, None, "0", (0, 0), (0, 0, 0), (1, 0), (1, 1),
                    (1, 2), (1, 2, 0), (1, -1, 0), (1, 0, 1), (1, 1, 3), (1, 1, 2, 0, 2), (1, 1, 2, 1, 1, 1),
                    (1, 1, 2, 1, 1, 1, 2), (1, 1, 2, 1, 1, 2, 0), (1, True, 0), (True, 1, 0), (1, 1, False), (1, (1, 0)),
                    (1, None, 0), (1, 1, 2, 1, 1, 1, 1, 0), (1, 1, 2, 1, 1, 1, 1, 0, 0), (10 ** 39,), (1, [1], 0), (0,) * 19000]:
                with self.assertRaises(NoPoint):
                    asked(deep(), 1, point)


if __name__ == "__main__":
    unittest.main()
