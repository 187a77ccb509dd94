"""Books and bodies: their forms and bounds, and what of a wrong program is named."""

import unittest

from barewords.errors import BadProgram
from barewords.programs import Program
from samples import (
    A, B, COUNTING, EITHER, IDENTITY, LISTS, NIL, NUM, TOTAL, TRUTH, box, boxed, counting, data, fun, hold,
    letter, main, odd_things, part_of, row, wide)

BACK = ((), ("back", 0))
FIRST = (0, (NUM,), NUM, BACK)


def book_part(book):
    return part_of(book, (FIRST,))


def body_part(body, book=(), more=()):
    """The part that is named when this body stands behind a right first one."""
    return part_of(book, (FIRST, body) + tuple(more))


def with_steps(*steps):
    return (0, (NUM,), NUM, (steps, ("back", 0)))


def step_part(step, book=(), more=()):
    return part_of(book, (FIRST, with_steps(step)) + tuple(more))


def nested(deep, end=("back", 0)):
    """A block so many blocks deep."""
    block = ((), end)
    for _ in range(deep - 1):
        block = ((), ("if", 0, block, BACK))
    return block


class ProgramTest(unittest.TestCase):
    def test_attributes(self):
        program = Program(*COUNTING)
        self.assertEqual(program.book, COUNTING[0])
        self.assertEqual(program.bodies, COUNTING[1])

    def test_equal_just_if_both_are(self):
        self.assertTrue(hold() == hold())
        self.assertFalse(hold() != hold())
        self.assertFalse(hold() == counting())
        self.assertTrue(hold() != counting())
        self.assertFalse(Program((), (FIRST,)) == Program((TRUTH,), (FIRST,)))
        self.assertFalse(Program((), (FIRST,)) == Program((), (FIRST, FIRST)))
        self.assertTrue(Program((), (FIRST,)) == Program((), ((0, (("num",),), ("num",), ((), ("back", 0))),)))

    def test_equal_to_nothing_else(self):
        program = hold()
        for thing in [*odd_things(), (program.book, program.bodies), program.bodies]:
            if not isinstance(thing, Program):
                self.assertFalse(program == thing)
                self.assertFalse(thing == program)
                self.assertTrue(program != thing)

    def test_methods_stand_in_the_class(self):
        self.assertIn("__eq__", vars(Program))
        self.assertIn("__init__", vars(Program))
        self.assertEqual(Program.__module__, "barewords.programs")


class BookTest(unittest.TestCase):
    def test_right_books(self):
        for book in ((), (TRUTH,), (LISTS, EITHER), (TRUTH,) * 6, ((3, ((letter(2), A, B),)),),
                     ((0, ((), (), (), ())),), ((0, ((NUM, NIL, row(NUM)),)),), ((3, ((),)),),
                     ((1, ((data(1, A, NUM),),)), EITHER), ((0, ((data(0),),)),),
                     ((0, ((wide(40),),)),), ((0, ((boxed(NUM, 7),),)),), ((1, ((fun([A], box(A)),),)),)):
            self.assertIsNone(book_part(book), book)

    def test_no_book(self):
        for thing in [*odd_things(), [TRUTH], [], (TRUTH,) * 7, {0: TRUTH}]:
            if thing != () and not (isinstance(thing, tuple) and len(thing) <= 6):
                self.assertEqual(book_part(thing), ("book", -1))

    def test_what_is_no_choice(self):
        for thing in [*odd_things(), [0, ((),)], (0, [()]), (0,), (0, ((),), 0), (0, ()), (0, ((),) * 5), (0, ([],)),
                      (0, ((NUM,) * 4,)), (4, ((),)), (-1, ((),)), (True, ((),)), (False, ((),)), ("0", ((),)),
                      (None, ((),)), (0, ((A,),)), (1, ((B,),)), (3, ((letter(3),),)), (0, ((box(A),),)),
                      (0, ((("row", ()),),)), (0, (("num",),)), (0, (NUM,)), (0, ((0,),)), (0, ((boxed(NUM, 8),),)),
                      (0, ((wide(41),),)), (0, ((boxed(NUM, 39),),)), (0, ((data(6),),)), (0, ((data(10 ** 39),),)),
                      (0, ((), (data(0, NUM),))), (0, ((fun([B], NUM),),)), (0, ((NUM,), (NUM, [NUM])))]:
            self.assertEqual(book_part((thing,)), ("book", 0), thing)
            self.assertEqual(book_part((TRUTH, LISTS[:1] + (((), (A, data(1, A))),), thing, TRUTH)), ("book", 2))

    def test_odd_things_within_choices(self):
        for thing in odd_things():
            if thing != ():
                self.assertEqual(book_part(((0, (thing,)),)), ("book", 0))
            self.assertEqual(book_part(((0, ((thing,),)),)), ("book", 0))
            self.assertEqual(book_part(((0, ((NUM, box(thing)),)),)), ("book", 0))
            self.assertEqual(book_part(((thing, ((),)),)), ("book", 0))
            if thing not in (((),), ((NUM,),)):
                self.assertEqual(book_part(((0, thing),)), ("book", 0))

    def test_the_first_choice_is_named(self):
        self.assertEqual(book_part((TRUTH, 0, 0)), ("book", 1))
        self.assertEqual(book_part((0, TRUTH, 0)), ("book", 0))

    def test_letters_of_choices_behind(self):
        self.assertEqual(book_part(((0, ((data(1, NUM),),)), TRUTH)), ("book", 0))
        self.assertEqual(book_part(((0, ((data(1),),)), LISTS)), ("book", 0))
        self.assertEqual(book_part(((0, ((data(2),),)), TRUTH)), ("book", 0))

    def test_what_tells_no_letters_has_none(self):
        for wrong in ("choice", (4, ((),)), (True, ((),)), [1, ((),)], (1,), (1, ((),), 0), (-1, ((),))):
            self.assertEqual(book_part(((0, ((data(1),),)), wrong)), ("book", 1), wrong)
            self.assertEqual(book_part(((0, ((data(1, NUM),),)), wrong)), ("book", 0), wrong)
        for wrong in ((1, ()), (1, "ways"), (1, ((B,),))):
            self.assertEqual(book_part(((0, ((data(1, NUM),),)), wrong)), ("book", 1), wrong)
            self.assertEqual(book_part(((0, ((data(1),),)), wrong)), ("book", 0), wrong)


class BodiesTest(unittest.TestCase):
    def test_how_many(self):
        self.assertIsNone(part_of((), (FIRST,)))
        self.assertIsNone(part_of((), (FIRST,) * 12))
        for thing in (*odd_things(), (FIRST,) * 13, [FIRST], {0: FIRST}):
            if not isinstance(thing, tuple) or not 1 <= len(thing) <= 12:
                self.assertEqual(part_of((), thing), ("bodies",))

    def test_the_book_comes_ahead(self):
        self.assertEqual(part_of((TRUTH, None), ()), ("book", 1))
        self.assertEqual(part_of(None, None), ("book", -1))
        self.assertEqual(part_of((0,), ((0,),)), ("book", 0))

    def test_right_bodies(self):
        for body in (IDENTITY, (4, (letter(3),) * 5, letter(3), BACK), (0, (NUM,) * 5, NUM, BACK),
                     (0, (), NUM, ((("num", 0),), ("back", 0))), (2, (A, B), A, BACK), TOTAL[:3] + (nested(1, (
                         "look", 0, (((("num", 1),), ("back", 1)), ((), ("back", 1))))),)):
            self.assertIsNone(body_part(body, (LISTS,)), body)

    def test_what_is_no_body(self):
        for body in [*odd_things(), [0, (NUM,), NUM, BACK], (0, (NUM,), NUM), (0, (NUM,), NUM, BACK, 0),
                     (5, (NUM,), NUM, BACK), (-1, (NUM,), NUM, BACK), (True, (NUM,), NUM, BACK),
                     (0, [NUM], NUM, BACK), (0, (NUM,) * 6, NUM, BACK), (0, NUM, NUM, BACK), (0, (0,), NUM, BACK),
                     (0, (["num"],), NUM, BACK), (0, (NUM,), ["num"], BACK), (0, (NUM,), (NUM,), BACK),
                     (0, (NUM,), (), BACK), (0, (NUM,), NUM, list(BACK)), (0, (NUM,), NUM, ([], ("back", 0))),
                     (0, (NUM,), NUM, ((),)), (0, (NUM,), NUM, ((), ("back", 0), ())), (0, (NUM,), NUM, ()),
                     (0, (NUM,), NUM, ((), ())), (0, (NUM,), NUM, (((),), ("back", 0)))]:
            self.assertEqual(body_part(body), ("body", 1, "form"), body)
            self.assertEqual(part_of((), (body, FIRST)), ("body", 0, "form"), body)

    def test_the_form_of_steps(self):
        for step in [*odd_things(), ["num", 0], ("num",), ("num", "0"), ("num", True), ("num", 0, 0), ("num", None),
                     ("num", 10 ** 12 + 1), ("num", -10 ** 12 - 1), ("nil", 0), ("sum", 0), ("sum", 0, 0, 0),
                     ("sum", 0, -1), ("sum", -1, 0), ("sum", False, 0), ("sum", 0, None), ("sum", (0, 0)),
                     ("less", 0), ("less", 0, True), ("less", -1, 0), ("row", ()), ("row", (0,) * 5), ("row", [0]),
                     ("row", 0), ("row", 0, 0), ("row", (-1,)), ("row", (True,)), ("row", (0, None)),
                     ("part", 0), ("part", 0, -1), ("part", -1, 0), ("part", 0, True), ("part", 0, 0, 0),
                     ("box", -1), ("box", True), ("box",), ("box", 0, 0), ("box", (0,)), ("open", -1), ("open", None),
                     ("open",), ("put", 0), ("put", 0, -1), ("put", True, 0), ("put", 0, 0, 0), ("print", -1),
                     ("print", False), ("print",), ("print", 0, 0), ("call", 0), ("call", 0, [0]), ("call", 0, 0),
                     ("call", -1, ()), ("call", True, ()), ("call", 0, (-1,)), ("call", 0, (True,)),
                     ("call", 0, (), ()), ("back", 0), ("if", 0, BACK, BACK), ("look", 0, ()), ("jump", 0)]:
            self.assertEqual(step_part(step), ("body", 1, "form"), step)

    def test_the_form_of_steps_that_name_choices(self):
        book = (TRUTH, EITHER)
        for step in [("way", 2, (), 0, ()), ("way", -1, (), 0, ()), ("way", True, (), 0, ()), ("way", 0, (), 2, ()),
                     ("way", 0, (), -1, ()), ("way", 0, (), True, ()), ("way", 0, [], 0, ()), ("way", 0, (), 0, []),
                     ("way", 0, (0,), 0, ()), ("way", 0, NUM, 0, ()), ("way", 0, (), 0, (-1,)),
                     ("way", 0, (), 0, (True,)), ("way", 0, (), 0), ("way", 0, (), 0, (), ()), ("way", 10 ** 39, (), 0, ()),
                     ("way", 0, (), 10 ** 39, ()), ("way", None, (), 0, ()), ("way", 0, (), None, ())]:
            self.assertEqual(step_part(step, book), ("body", 1, "form"), step)
        self.assertEqual(step_part(("way", 0, (), 0, ())), ("body", 1, "form"))

    def test_the_form_of_steps_that_name_bodies(self):
        for head in ("take", "body"):
            for words in ((2, (), ()), (-1, (), ()), (True, (), ()), (None, (), ()), (0, [], ()), (0, (), []),
                          (0, (0,), ()), (0, NUM, ()), (0, (), (-1,)), (0, (), (False,)), (0, ()), (0, (), (), ()),
                          (10 ** 39, (), ())):
                self.assertEqual(step_part((head,) + words), ("body", 1, "form"), words)

    def test_the_form_of_ends(self):
        for end in [*odd_things(), ["back", 0], ("back",), ("back", -1), ("back", True), ("back", 0, 0), ("back", (0,)),
                    ("if", 0, BACK), ("if", -1, BACK, BACK), ("if", False, BACK, BACK), ("if", 0, BACK, BACK, BACK),
                    ("if", 0, (BACK, BACK)), ("if", 0, BACK, None), ("if", 0, [], BACK), ("if", 0, BACK, ((), 0)),
                    ("look", 0), ("look", -1, ()), ("look", True, ()), ("look", 0, []), ("look", 0, (None,)),
                    ("look", 0, BACK), ("look", 0, ((),)), ("look", 0, (), ()), ("num", 0), ("print", 0), ("nil",)]:
            self.assertEqual(body_part((0, (NUM,), NUM, ((), end))), ("body", 1, "form"), end)
            block = ((), ("if", 0, BACK, ((), end)))
            self.assertEqual(body_part((0, (NUM,), NUM, block)), ("body", 1, "form"), end)

    def test_odd_things_as_words(self):
        for thing in odd_things():
            for step in (("num", thing), ("sum", 0, thing), ("sum", thing, 0), ("row", thing), ("row", (thing,)),
                         ("part", 0, thing), ("call", thing, ()), ("call", 0, (thing,)), ("box", thing),
                         ("take", thing, (), ()), ("take", 0, (thing,), ()), ("body", 0, (), (thing,)),
                         ("way", thing, (), 0, ()), ("way", 0, (thing,), 0, ()), ("way", 0, (), thing, ()),
                         ("way", 0, (), 0, (thing,))):
                if step not in (("num", -1), ("num", -10 ** 39), ("row", (0,))):
                    self.assertEqual(step_part(step, (TRUTH,)), ("body", 1, "form"), step)

    def test_numbers_of_steps(self):
        for number in (10 ** 12, -10 ** 12, 0):
            self.assertIsNone(step_part(("num", number)))
        for number in (10 ** 12 + 1, -10 ** 12 - 1, 10 ** 39):
            self.assertEqual(step_part(("num", number)), ("body", 1, "form"))

    def test_how_many_steps(self):
        self.assertIsNone(body_part(with_steps(*[("nil",)] * 60)))
        self.assertEqual(body_part(with_steps(*[("nil",)] * 61)), ("body", 1, "form"))
        for many, part in ((20, None), (21, ("body", 1, "form"))):
            block = ((("nil",),) * 20, ("back", 0))
            first = ((("nil",),) * 20, ("if", 0, block, ((("nil",),) * many, ("back", 0))))
            self.assertEqual(body_part((0, (NUM,), NUM, first)), part)
        ends = ((), ("if", 0, BACK, BACK))
        for _ in range(4):
            ends = ((), ("if", 0, ends, ends))
        self.assertIsNone(body_part((0, (NUM,), NUM, ends)))

    def test_how_deep_blocks(self):
        self.assertIsNone(body_part((0, (NUM,), NUM, nested(6))))
        self.assertEqual(body_part((0, (NUM,), NUM, nested(7))), ("body", 1, "form"))
        self.assertEqual(body_part((0, (NUM,), NUM, nested(17))), ("body", 1, "form"))
        block = BACK
        for _ in range(5):
            block = ((), ("look", 0, (BACK, block)))
        self.assertEqual(body_part((0, (data(0),), data(0), block), (TRUTH,)), None)
        block = ((), ("look", 0, (BACK, block)))
        self.assertEqual(body_part((0, (data(0),), data(0), block), (TRUTH,)), ("body", 1, "form"))


class KindsInBodiesTest(unittest.TestCase):
    def kinds_part(self, kind, letters=0, book=()):
        """The part that is named wherever this kind stands in a body."""
        found = {
            body_part((letters, (NUM, kind), NUM, BACK), book),
            body_part((letters, (NUM, NUM), kind, ((("body", 1, tuple(map(letter, range(letters))), (0, 1)),), (
                "back", 2))), book),
            body_part((letters, (NUM,), NUM, ((("body", 2, (kind,), ()),), ("back", 0))), book, (
                (1, (), NUM, ((("num", 0),), ("back", 0))),)),
        }
        self.assertEqual(len(found), 1, found)
        return found.pop()

    def test_right_kinds(self):
        book = (LISTS, EITHER, TRUTH)
        for kind in (NUM, A, row(B, A), data(0, A), data(1, A, data(2)), fun([A], letter(3)), boxed(NUM, 7), wide(40),
                     boxed(letter(3), 7)):
            self.assertIsNone(self.kinds_part(kind, 4, book), kind)

    def test_a_letter_beyond(self):
        for letters in range(5):
            for kind in (letter(letters), box(letter(letters)), fun([letter(9)], NUM), letter(10 ** 39)):
                self.assertEqual(self.kinds_part(kind, letters), ("body", 1, "kinds"))

    def test_a_choice_that_is_none(self):
        for kind in (data(1), box(data(1)), data(10 ** 39), data(1, NUM)):
            self.assertEqual(self.kinds_part(kind, 0, (TRUTH,)), ("body", 1, "kinds"))
        self.assertEqual(self.kinds_part(data(0)), ("body", 1, "kinds"))

    def test_as_many_kinds_as_letters(self):
        for kind in (data(0), data(0, NUM, NUM), data(1, NUM), data(1), data(1, NUM, NUM, NUM), data(2, NUM),
                     data(0, *[NUM] * 4), row(data(2, NUM))):
            self.assertEqual(self.kinds_part(kind, 0, (LISTS, EITHER, TRUTH)), ("body", 1, "kinds"))

    def test_too_deep_or_too_great(self):
        self.assertIsNone(self.kinds_part(boxed(NUM, 7)))
        self.assertEqual(self.kinds_part(boxed(NUM, 8)), ("body", 1, "kinds"))
        self.assertEqual(self.kinds_part(boxed(NUM, 50)), ("body", 1, "kinds"))
        self.assertIsNone(self.kinds_part(wide(40)))
        self.assertEqual(self.kinds_part(wide(41)), ("body", 1, "kinds"))
        self.assertEqual(self.kinds_part(wide(400)), ("body", 1, "kinds"))

    def test_kinds_of_a_way(self):
        book = (LISTS, EITHER, TRUTH)
        for number, kinds in ((0, (NUM,)), (1, (NUM, NIL)), (2, ())):
            for many in range(5):
                step = ("way", number, ((NUM, NIL) * 2)[:many], 0, (0,) if number == 1 else ())
                part = None if many == len(kinds) else ("body", 1, "kinds")
                self.assertEqual(step_part(step, book), part, step)
        for kind in (A, data(3), data(0), boxed(NUM, 8), wide(41)):
            self.assertEqual(step_part(("way", 0, (kind,), 0, ()), book), ("body", 1, "kinds"))

    def test_kinds_for_letters_of_bodies(self):
        for head in ("take", "body"):
            places = (0,) if head == "body" else ()
            for many in range(4):
                part = None if many == 1 else ("body", 1, "kinds")
                self.assertEqual(step_part((head, 2, (NUM,) * many, places), (), (IDENTITY,)), part)
            for kind in (A, data(0), boxed(NUM, 8), wide(41)):
                self.assertEqual(step_part((head, 2, (kind,), places), (), (IDENTITY,)), ("body", 1, "kinds"))

    def test_what_tells_no_letters_has_none(self):
        for wrong in (None, (5, (), NUM, BACK), (True, (), NUM, BACK), [1, (A,), A, BACK], (1, (A,), A), (-1, (), NUM, BACK)):
            self.assertEqual(step_part(("body", 2, (), ()), (), (wrong,)), ("body", 2, "form"))
            self.assertEqual(step_part(("body", 2, (NUM,), ()), (), (wrong,)), ("body", 1, "kinds"))
        for wrong in ((1, None, None, None), (1, (A,), A, ())):
            self.assertEqual(step_part(("take", 2, (NUM,), ()), (), (wrong,)), ("body", 2, "form"))
            self.assertEqual(step_part(("take", 2, (), ()), (), (wrong,)), ("body", 1, "kinds"))


class FirstBodyTest(unittest.TestCase):
    def test_the_first_body(self):
        for body in ((1, (NUM,), NUM, BACK), (0, (NUM, NIL), NUM, BACK), (0, (NUM, box(NUM)), NUM, BACK),
                     (0, (NUM,), NIL, BACK), (0, (data(0),), NUM, BACK), (4, (A,), A, BACK), (0, (), data(0), BACK)):
            self.assertEqual(part_of((TRUTH,), (body, FIRST)), ("body", 0, "first"))
            self.assertEqual(part_of((TRUTH,), (body, None)), ("body", 0, "first"))
        self.assertIsNone(part_of((), ((0, (NUM,) * 5, NUM, BACK),)))
        self.assertIsNone(part_of((), ((0, (), NUM, ((("num", 1),), ("back", 0))),)))


class OrderTest(unittest.TestCase):
    def test_words_of_a_body(self):
        self.assertEqual(part_of((), ((1, (B,), NUM, ((("num", True),), ("back", 0))),)), ("body", 0, "form"))
        self.assertEqual(part_of((), ((1, (B,), NUM, BACK),)), ("body", 0, "kinds"))
        self.assertEqual(part_of((), ((1, (A,), NUM, BACK),)), ("body", 0, "first"))

    def test_bodies_in_order(self):
        form, kinds = (0, (NUM,), NUM, None), (0, (A,), NUM, BACK)
        self.assertEqual(part_of((), (FIRST, form, kinds)), ("body", 1, "form"))
        self.assertEqual(part_of((), (FIRST, kinds, form)), ("body", 1, "kinds"))
        self.assertEqual(part_of((), (kinds, form)), ("body", 0, "kinds"))
        self.assertEqual(part_of((), (FIRST, FIRST, form)), ("body", 2, "form"))

    def test_steps_come_last(self):
        wrong = with_steps(("sum", 0, 1))
        self.assertEqual(part_of((), (wrong, (0,))), ("body", 1, "form"))
        self.assertEqual(part_of((), (wrong, (0, (A,), NUM, BACK))), ("body", 1, "kinds"))
        self.assertEqual(part_of((), (wrong, with_steps(("open", 0)))), ("step", 0, (0,)))
        self.assertEqual(part_of((), (FIRST, wrong)), ("step", 1, (0,)))

    def test_a_wrong_program_is_none(self):
        with self.assertRaises(BadProgram) as caught:
            Program((), (main((("open", 0),), ("back", 0)),))
        self.assertEqual(caught.exception.part, ("step", 0, (0,)))


if __name__ == "__main__":
    unittest.main()
