import unittest

from barewords.errors import NoKind, NoKinds
from barewords.kinds import filled, is_kind, letters_in, matched
from samples import A, B, NIL, NUM, box, boxed, data, fun, letter, odd_things, row

KINDS = [
    NUM, NIL, row(NUM), row(NUM, NIL), row(NUM, NIL, A), row(NUM, NIL, A, B), data(0), data(5, NUM), data(0, A, B, NUM),
    data(10 ** 39), fun([NUM], NIL), fun([NUM, A], B), fun([A, B, NUM], row(A)), box(NUM), box(box(A)), A,
    letter(10 ** 39), box(fun([row(data(1, box(A)))], fun([letter(7)], data(2)))),
]

NO_KINDS = [
    ("Num",), ("number",), ("",), ("num", ()), ("nil", 0), ("num", NUM), ("nil", None),
    ("row",), ("row", ()), ("row", [NUM]), ("row", NUM), ("row", (NUM,), NUM), row(*[NUM] * 5), row(NUM, None),
    ("row", ("num",)), row(row()), row(True), row(0),
    ("data",), ("data", 0), ("data", ()), ("data", 0, [NUM]), ("data", True, ()), ("data", False, ()),
    ("data", -1, ()), ("data", None, ()), ("data", "0", ()), ("data", 0, NUM), ("data", 0, (), ()),
    ("data", 0, (0,)), ("data", (), 0), ("data", 0, None),
    ("fun",), ("fun", (NUM,)), ("fun", (), NUM), ("fun", [NUM], NUM), ("fun", (NUM,) * 4, NUM), ("fun", NUM, NUM),
    ("fun", (NUM,), ()), ("fun", (NUM,), None), ("fun", (NUM,), (NUM,)), ("fun", (NUM,), NUM, NUM), ("fun", (0,), NUM),
    ("box",), ("box", 0), ("box", (NUM,)), ("box", NUM, NUM), ("box", ()), ("box", [NUM]), ("box", None),
    ("letter",), ("letter", True), ("letter", False), ("letter", -1), ("letter", None), ("letter", 0, 0),
    ("letter", (0,)), ("letter", "0"), ["num"], ["row", (NUM,)], ("letter", [0]), (("num",),), (0,), (None, NUM),
    boxed(0, 40), boxed(None, 59), boxed((), 59), boxed(["num"], 30), ("set", NUM), ("Box", NUM),
]


class IsKindTest(unittest.TestCase):
    def test_kinds(self):
        for kind in KINDS:
            self.assertIs(is_kind(kind), True, kind)

    def test_no_kinds(self):
        for thing in [*NO_KINDS, *odd_things()]:
            self.assertIs(is_kind(thing), False, thing)

    def test_no_kinds_within(self):
        for thing in [*NO_KINDS, *odd_things()]:
            for around in (row(NUM, thing), data(0, thing), fun([thing], NUM), fun([NUM], thing), box(thing),
                           row(row(thing, NUM)), box(data(3, NUM, thing))):
                self.assertIs(is_kind(around), False, thing)

    def test_deep_things(self):
        for deep in (40, 59):
            self.assertTrue(is_kind(boxed(NUM, deep)))
            self.assertFalse(is_kind(boxed("num", deep)))
        kind = NUM
        for _ in range(29):
            kind = row(kind)
        self.assertTrue(is_kind(kind))
        nested = ()
        for _ in range(58):
            nested = ("row", nested)
        self.assertFalse(is_kind(nested))

    def test_a_choice_with_many_kinds(self):
        self.assertTrue(is_kind(data(0, *[NUM] * 4)))
        self.assertTrue(is_kind(data(0, *[NUM] * 5000)))


class FilledTest(unittest.TestCase):
    def test_letters_are_put_in(self):
        self.assertEqual(filled(A, (NUM,)), NUM)
        self.assertEqual(filled(B, (NUM, NIL)), NIL)
        self.assertEqual(filled(row(A, B, A), (NUM, NIL)), row(NUM, NIL, NUM))
        self.assertEqual(filled(data(3, B, A), (NUM, NIL)), data(3, NIL, NUM))
        self.assertEqual(filled(fun([A, B], row(B, A)), (NUM, NIL)), fun([NUM, NIL], row(NIL, NUM)))
        self.assertEqual(filled(box(box(A)), (box(NIL),)), boxed(NIL, 3))
        self.assertEqual(
            filled(row(fun([A, NUM, B], NIL), data(1, box(B), A), A), (data(0), NUM)),
            row(fun([data(0), NUM, NUM], NIL), data(1, box(NUM), data(0)), data(0)))

    def test_without_letters_it_stays(self):
        for kind in (NUM, NIL, row(NUM, box(NIL)), data(0), fun([NUM], data(1, NUM))):
            self.assertEqual(filled(kind, ()), kind)
            self.assertEqual(filled(kind, (A,)), kind)

    def test_kinds_with_letters_are_put_in_at_once(self):
        self.assertEqual(filled(row(A, B), (B, A)), row(B, A))
        self.assertEqual(filled(box(A), (row(A, B),)), box(row(A, B)))
        self.assertEqual(filled(row(A, A), (letter(9),)), row(letter(9), letter(9)))

    def test_more_than_need_be(self):
        self.assertEqual(filled(A, (NUM, NIL, B)), NUM)
        self.assertEqual(filled(letter(2), (NUM, NIL, B)), B)

    def test_no_kind(self):
        for thing in [*NO_KINDS, *odd_things()]:
            for kinds in ((NUM,), (), None):
                with self.assertRaises(NoKind):
                    filled(thing, kinds)

    def test_no_kinds(self):
        for thing in [*NO_KINDS, *odd_things()]:
            if thing not in ((), (NUM,)):
                for kind in (NUM, A, row(A)):
                    with self.assertRaises(NoKinds):
                        filled(kind, thing)
            with self.assertRaises(NoKinds):
                filled(NUM, (thing,))
            with self.assertRaises(NoKinds):
                filled(A, (NUM, thing))
            with self.assertRaises(NoKinds):
                filled(A, [NUM, NIL])

    def test_too_short(self):
        for kind, kinds in ((A, ()), (B, (NUM,)), (row(A, box(B)), (NUM,)), (letter(10 ** 39), (NUM,) * 3),
                            (fun([A], letter(2)), (NUM, NIL))):
            with self.assertRaises(NoKinds):
                filled(kind, kinds)

    def test_nothing_is_changed_and_returned_kinds_may_grow(self):
        kind = row(box(A))
        for _ in range(12):
            kind = filled(kind, (kind,))
        self.assertTrue(is_kind(kind))
        self.assertEqual(letters_in(kind), (0,))
        closed = filled(kind, (NUM,))
        self.assertEqual(letters_in(closed), ())
        self.assertEqual(matched(kind, closed), {0: NUM})
        self.assertEqual(matched(closed, closed), {})
        self.assertIsNone(matched(closed, filled(kind, (NIL,))))
        with self.assertRaises(NoKind):
            matched(kind, kind)


class LettersInTest(unittest.TestCase):
    def test_letters(self):
        self.assertEqual(letters_in(NUM), ())
        self.assertEqual(letters_in(data(3)), ())
        self.assertEqual(letters_in(A), (0,))
        self.assertEqual(letters_in(row(letter(3), A, letter(12), A)), (0, 3, 12))
        self.assertEqual(letters_in(fun([B], letter(2))), (1, 2))
        self.assertEqual(letters_in(box(data(7, letter(4), box(B)))), (1, 4))

    def test_no_kind(self):
        for thing in [*NO_KINDS, *odd_things()]:
            with self.assertRaises(NoKind):
                letters_in(thing)


class MatchedTest(unittest.TestCase):
    def test_matched(self):
        self.assertEqual(matched(A, NUM), {0: NUM})
        self.assertEqual(matched(letter(3), box(NIL)), {3: box(NIL)})
        self.assertEqual(matched(NUM, NUM), {})
        self.assertEqual(matched(data(2), data(2)), {})
        self.assertEqual(matched(row(A, B, A), row(NUM, NIL, NUM)), {0: NUM, 1: NIL})
        self.assertEqual(
            matched(fun([A, box(B)], data(1, B, A)), fun([row(NUM), box(NIL)], data(1, NIL, row(NUM)))),
            {0: row(NUM), 1: NIL})

    def test_none(self):
        for kind, closed in (
                (NUM, NIL), (row(A), row(NUM, NUM)), (row(A, A), row(NUM, NIL)), (row(A, A), row(NUM)), (box(A), NUM),
                (data(0, A), data(1, NUM)), (data(0, A), data(0, NUM, NUM)), (data(0), data(0, NUM)),
                (fun([A], A), fun([NUM], NIL)), (fun([A], B), fun([NUM, NUM], NUM)), (fun([A, NUM], B), fun([NUM], NUM)),
                (row(NUM), box(NUM)), (row(A, box(A)), row(box(NUM), box(NUM))), (row(A, B, B), row(NUM, NUM, NIL)),
                (fun([NUM], NUM), row(NUM, NUM)), (data(0, box(A)), data(0, row(NUM)))):
            self.assertIsNone(matched(kind, closed), (kind, closed))

    def test_no_kind(self):
        for thing in [*NO_KINDS, *odd_things()]:
            for first, second in ((thing, NUM), (A, thing), (thing, thing), (thing, A)):
                with self.assertRaises(NoKind):
                    matched(first, second)

    def test_a_second_one_that_is_not_closed(self):
        for first, second in ((A, A), (NUM, A), (box(NUM), row(B)), (row(A), row(A)), (NUM, fun([NUM], B))):
            with self.assertRaises(NoKind):
                matched(first, second)

    def test_each_dict_is_new(self):
        first = matched(A, NUM)
        first[5] = NIL
        self.assertEqual(matched(A, NUM), {0: NUM})

    def test_filled_and_matched_agree(self):
        kinds = (NUM, box(NIL), data(0, NUM))
        for kind in (row(A, B, letter(2), A), fun([A, B], data(4, letter(2), box(A)))):
            self.assertEqual(matched(kind, filled(kind, kinds)), dict(enumerate(kinds)))


if __name__ == "__main__":
    unittest.main()
