"""Texts of kinds and programs, written."""

import random
import unittest

from barewords.desk import Desk
from barewords.errors import NoKind
from barewords.keeper import Keeper
from barewords.programs import Program
from barewords.reading import read_kind, read_program
from barewords.texts import kind_text, program_text
from holders import made_holders
from made import made_program
from naive import naive_part
from naive_texts import naive_kind_text, naive_program, naive_text
from samples import (
    A, B, EITHER, IDENTITY, NIL, NUM, TRUTH, box, boxed, counting, data, fun, hold, letter, main, odd_things, program,
    row, wide)
from states import deeper, ever, lists, nested, using

KINDS = (
    (NUM, "num"), (NIL, "nil"), (A, "?0"), (letter(17), "?17"), (row(NUM), "[num]"), (row(NUM, A, NIL, B), "[num,?0,nil,?1]"),
    (data(0), "#0"), (data(12), "#12"), (data(0, A), "#0(?0)"), (data(3, NUM, NIL), "#3(num,nil)"),
    (data(1, NUM, NUM, NUM, NUM, NUM), "#1(num,num,num,num,num)"), (fun([NUM], NIL), "<num:nil>"),
    (fun([NUM, A, NIL], B), "<num,?0,nil:?1>"), (box(NUM), "!num"), (box(box(box(A))), "!!!?0"),
    (row(box(fun([row(NUM, data(0, A))], data(1)), )), "[!<[num,#0(?0)]:#1>]"),
    (fun([fun([NUM], NUM)], fun([NIL], NIL)), "<<num:num>:<nil:nil>>"))


class KindTextTest(unittest.TestCase):
    def test_each_kind(self):
        for kind, text in KINDS:
            self.assertEqual(kind_text(kind), text)
            self.assertEqual(naive_kind_text(kind), text)
            self.assertEqual(read_kind(text), kind)

    def test_great_numbers(self):
        self.assertEqual(kind_text(letter(10 ** 39)), "?1" + "0" * 39)
        self.assertEqual(kind_text(data(10 ** 39, NUM)), "#1" + "0" * 39 + "(num)")

    def test_deep_and_wide_ones(self):
        self.assertEqual(kind_text(boxed(NUM, 20000)), "!" * 20000 + "num")
        self.assertEqual(kind_text(wide(400)), naive_kind_text(wide(400)))
        kind = A
        for _ in range(58):
            kind = fun([kind], NUM)
        self.assertEqual(kind_text(kind), "<" * 58 + "?0" + ":num>" * 58)

    def test_no_kind(self):
        for thing in odd_things() + ["num", ("letter", -1), ("letter", True), ("box", ("nul",)), Desk(), Keeper(hold(), (1,), 1)]:
            with self.assertRaises(NoKind):
                kind_text(thing)


class ProgramTextTest(unittest.TestCase):
    def test_every_step_and_end(self):
        one = Program((TRUTH, (1, ((), (A, data(1, A)))), (2, ((A, B, row(A)), ()))), (
            main((
                ("num", -10 ** 12), ("num", 0), ("nil",), ("sum", 0, 1), ("less", 1, 0), ("row", (1,)), ("row", (0, 1, 2, 3)),
                ("part", 7, 2), ("way", 0, (), 1, ()), ("way", 1, (box(NUM),), 0, ()), ("take", 1, (NUM, NIL), (0,)),
                ("take", 2, (), ()), ("box", 12), ("open", 13), ("put", 13, 12), ("print", 0), ("body", 3, (), ()),
                ("call", 12, (0,))), ("if", 0, (
                    (), ("look", 9, (((), ("back", 0)), ((("num", 5),), ("back", 19))))), ((("num", 7),), ("back", 19)))),
            (2, (A, B, A, NUM), B, ((), ("back", 1))), (0, (NUM,), NUM, ((), ("back", 0))), (0, (), NIL, ((("nil",),), ("back", 0)))))
        self.assertEqual(program_text(one), (
            "choice 0\nform\nform\nchoice 1\nform\nform ?0 #1(?0)\nchoice 2\nform ?0 ?1 [?0]\nform\n"
            "new 0 : num : num\nnum -1000000000000\nnum 0\nnil\nsum 0 1\nless 1 0\nrow 1\nrow 0 1 2 3\npart 7 2\n"
            "way 0 1 : :\nway 1 0 : !num :\ntake 1 : num nil : 0\ntake 2 : :\nbox 12\nopen 13\nput 13 12\nprint 0\n"
            "body 3 : :\ncall 12 : 0\nif 0\nlook 9 2\nback 0\nnum 5\nback 19\nnum 7\nback 19\n"
            "new 2 : ?0 ?1 ?0 num : ?1\nback 1\nnew 0 : num : num\nback 0\nnew 0 : : nil\nnil\nback 0\n"))
        self.assertEqual(read_program(program_text(one)), one)

    def test_hold(self):
        self.assertEqual(program_text(hold()), (
            "new 0 : num : num\ntake 1 : num : 0 0\ncall 1 : 0\nback 2\nnew 1 : ?0 num num : num\nbox 0\nsum 1 2\nback 4\n"))

    def test_blocks_within_blocks(self):
        def deep(many):
            return ((), ("if", 0, deep(many - 1), ((("num", many),), ("back", 1)))) if many else ((), ("back", 0))
        one = Program((), (main(*deep(5)),))
        self.assertEqual(program_text(one), (
            "new 0 : num : num\n" + "if 0\n" * 5 + "back 0\n" + "".join(f"num {at}\nback 1\n" for at in range(1, 6))))
        self.assertEqual(read_program(program_text(one)), one)

    def test_there_and_back(self):
        for one in (hold(), counting(), nested(), using(), using(3), lists(), deeper(1), deeper(4), ever(NUM, NIL, box(NUM)),
                    program((), ("back", 0), (IDENTITY,), (EITHER, TRUTH))):
            text = program_text(one)
            self.assertEqual(text, naive_text(one.book, one.bodies))
            self.assertEqual(read_program(text), one)
            self.assertEqual(naive_program(text), (one.book, one.bodies))
            self.assertEqual(program_text(read_program(text)), text)

    def test_programs_made_by_chance(self):
        many = 0
        for seed in range(300):
            book, bodies = (made_program if seed % 2 else made_holders)(random.Random(seed))
            if naive_part(book, bodies) is None:
                many += 1
                one = Program(book, bodies)
                self.assertEqual(program_text(one), naive_text(book, bodies))
                self.assertEqual(read_program(program_text(one)), one)
        self.assertGreater(many, 200)


if __name__ == "__main__":
    unittest.main()
