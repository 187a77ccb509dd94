"""Texts of kinds and programs, read: each form, lines written otherwise, and texts that lack something."""

import random
import unittest

from barewords.desk import Desk
from barewords.errors import BadProgram, BadText
from barewords.keeper import Keeper
from barewords.programs import Program
from barewords.reading import read_kind, read_program
from barewords.texts import kind_text, program_text
from holders import made_holders
from made import made_program
from naive import naive_part
from naive_states import whole_kind
from naive_texts import naive_program
from samples import A, NUM, boxed, counting, data, fun, hold, letter, main, odd_things, row
from states import lists, using

TEXT = program_text(hold())
WHOLE = (
    "choice 1\nform\nform ?0 #0(?0)\n"
    "new 0 : num : num\nnum -5\nnil\nsum 0 1\nless 0 1\nrow 0 2\npart 5 1\nway 0 0 : num :\ntake 1 : nil : 2\nbox 0\nopen 9\n"
    "put 9 0\nprint 0\nbody 2 : : 0\ncall 8 : 0\nif 0\nlook 7 2\nback 0\nback 0\nback 0\n"
    "new 1 : ?0 num : num\nback 1\nnew 0 : num : num\nback 0\n")


def bad_line(text):
    """The line that BadText names, ("part", part) of BadProgram, or None."""
    try:
        read_program(text)
    except BadText as error:
        return error.line
    except BadProgram as error:
        return ("part", error.part)
    return None


class ReadKindTest(unittest.TestCase):
    def none(self, text):
        self.assertIsNone(whole_kind(text), text)
        with self.assertRaises(BadText) as caught:
            read_kind(text)
        self.assertEqual(caught.exception.line, 1)

    def test_no_string(self):
        for thing in odd_things() + [Desk(), Keeper(hold(), (5,), 1), NUM]:
            if type(thing) is str:
                continue
            with self.assertRaises(BadText) as caught:
                read_kind(thing)
            self.assertEqual(caught.exception.line, 0)

    def test_no_kinds(self):
        for text in ("", " ", "Num", "NUM", "nu", "num ", " num", "num\n", "numnum", "num,num", "nil:", "?", "?-1", "?01", "?00",
                     "? 0", "?x", "?0x", "[", "[]", "[num", "[num,", "[num,]", "[,num]", "[num num]", "[num, num]", "num]",
                     "[num,num,num,num,num]", "[num]]", "(num)", "#", "#x", "#01", "#0(", "#0()", "#0(num", "#0(num,)", "#0 (num)",
                     "#-1", "#0)", "#0(num))", "<", "<:num>", "<num>", "<num:>", "<num:num", "<num,:num>", "<num;num>",
                     "<num:num,num>", "<num:num:num>", "<num,num,num,num:num>", "<num:num>>", "!", "!!", "! num", "num!", "!num!",
                     "\tnum", "num\t", "?1 ", "nu m", "~", "#(num)", "?+1", "letter", "num0", "?0?0", "#0#0", "box", "()"):
            self.none(text)

    def test_figures(self):
        self.assertEqual(read_kind("?" + "9" * 13), letter(10 ** 13 - 1))
        self.assertEqual(read_kind("#1" + "0" * 12 + "(num)"), data(10 ** 12, NUM))
        for figures in (14, 15, 40, 19000):
            self.none("?" + "9" * figures)
            self.none("#" + "1" * figures)
            self.none("?" + "0" * figures)

    def test_many_kinds(self):
        self.assertEqual(read_kind("[num,nil,?0,!num]"), row(NUM, ("nil",), A, ("box", NUM)))
        self.assertEqual(read_kind("<num,num,num:num>"), fun([NUM] * 3, NUM))
        self.assertEqual(read_kind("#0(" + ",".join(["num"] * 4000) + ")"), data(0, *[NUM] * 4000))

    def test_20_deep_and_21(self):
        for deep in (1, 2, 19, 20, 21, 22, 60, 1000, 6000):
            for ahead, behind in (("!", ""), ("[", "]"), ("<num:", ">"), ("<", ":num>"), ("#0(", ")"), ("[num,", "]"), ("#0(nil,", ")")):
                for inner in ("num", "nil", "?0", "#0"):
                    text = ahead * (deep - 1) + inner + behind * (deep - 1)
                    if len(text) > 20000:
                        continue
                    if deep <= 20:
                        self.assertEqual(kind_text(read_kind(text)), text)
                        self.assertEqual(read_kind(text), whole_kind(text))
                    elif deep < 100:
                        self.none(text)
                    else:
                        self.assertRaises(BadText, read_kind, text)
        self.assertEqual(read_kind("!" * 19 + "num"), boxed(NUM, 19))
        self.none("[num," + "!" * 19 + "num]")
        self.assertEqual(read_kind("[num," + "!" * 18 + "num]"), row(NUM, boxed(NUM, 18)))

    def test_one_sign_changed(self):
        chance = random.Random(5)
        read = 0
        for text in ("#0(?0)", "<num,?0:[num,nil]>", "[!<[num,#0(?0)]:#1>]", "<<num:num>:<nil:nil>>", "#12(?3,!num)"):
            for at in range(len(text) + 1):
                for other in "?#[]<>():,!0123numil ":
                    for changed in (text[:at] + other + text[at + 1:], text[:at] + other + text[at:], text[:at] + text[at + 1:]):
                        kind = whole_kind(changed)
                        if kind is None:
                            if chance.random() < 0.2:
                                self.none(changed)
                        else:
                            read += 1
                            self.assertEqual(read_kind(changed), kind)
        self.assertGreater(read, 100)


class ReadProgramTest(unittest.TestCase):
    def test_right(self):
        self.assertEqual(read_program(TEXT), hold())
        self.assertEqual(program_text(read_program(WHOLE)), WHOLE)

    def test_no_string(self):
        for thing in odd_things() + [Desk(), Keeper(hold(), (5,), 1), hold()]:
            if type(thing) is not str:
                self.assertEqual(bad_line(thing), 0)

    def test_empty(self):
        self.assertEqual(bad_line(""), ("part", ("bodies",)))
        self.assertEqual(bad_line("\n"), 1)
        self.assertEqual(bad_line("choice 1\nform ?0\n"), ("part", ("bodies",)))
        self.assertEqual(bad_line("x"), 1)

    def test_each_line_left_out_twice_and_exchanged(self):
        for text in (TEXT, WHOLE, program_text(counting()), program_text(lists())):
            lines = text.split("\n")[:-1]

            def check(ones):
                changed = "".join(line + "\n" for line in ones)
                answer = naive_program(changed)
                if not isinstance(answer, int):
                    part = naive_part(*answer)
                    answer = None if part is None else ("part", part)
                self.assertEqual(bad_line(changed), answer, changed)
            for at in range(len(lines)):
                check(lines[:at] + lines[at + 1:])
                check(lines[:at] + [lines[at]] + lines[at:])
                for other in range(at):
                    ones = list(lines)
                    ones[at], ones[other] = ones[other], ones[at]
                    check(ones)

    def test_each_line_written_otherwise(self):
        lines = WHOLE.split("\n")[:-1]
        for at, line in enumerate(lines):
            others = {line + " ", " " + line, line.upper(), line.capitalize(), line + " 0x", line.replace(" ", "  ", 1) + " ",
                      "\t" + line, line + "\t", line + ".", "", " ", "x" + line, line[:-1] + "_", line + " -", line + ":"}
            if " " in line:
                others |= {line.replace(" ", "\t", 1), line.replace(" ", "", 1), line.replace(" ", "  ", 1)}
            for other in others:
                text = "".join(one + "\n" for one in lines[:at] + [other] + lines[at + 1:])
                self.assertEqual(bad_line(text), at + 1, other)
                self.assertEqual(naive_program(text), at + 1, other)

    def test_numbers(self):
        def check(line, is_form):
            text = "new 0 : num : num\n" + line + "\nback 0\n"
            answer = bad_line(text)
            self.assertEqual(answer == 2, not is_form, line)
            self.assertTrue(answer == 2 or answer is None or answer[0] == "part", line)
        for number, is_form in (("0", True), ("7", True), ("9999999999999", True), ("10000000000000", False), ("00", False),
                                ("01", False), ("+1", False), ("", False), ("0x1", False), ("1.0", False), ("1_0", False),
                                ("99999999999999999999999", False), ("x", False)):
            for form in ("num {}", "sum {} 0", "sum 0 {}", "less 0 {}", "row {}", "row 0 {}", "part {} 0", "part 0 {}",
                         "way {} 0 : :", "way 0 {} : :", "way 0 0 : : {}", "take {} : :", "take 0 : : 0 {}", "box {}", "open {}",
                         "put {} 0", "put 0 {}", "print {}", "body {} : :", "body 0 : : {}", "call {} : 0", "call 0 : {} 0",
                         "body 0 : ?{} :", "take 0 : #{} :"):
                check(form.format(number), is_form)
            for text in (f"choice {number}\n", f"new {number} : num : num\nback 0\n", f"choice 0\nform ?{number}\n"):
                answer = bad_line(text)
                self.assertEqual(answer == text.count("\n") - text.count("back"), not is_form, text)
        for number, is_form in (("-1", True), ("-0", False), ("-9999999999999", True), ("-10000000000000", False), ("-", False),
                                ("--1", False), ("-01", False), ("- 1", False)):
            check(f"num {number}", is_form)
            check(f"box {number}", False)
            check(f"sum 0 {number}", False)
            check(f"row {number}", False)
        for line in ("back 00", "back -1", "back 01", "back", "back 0 0", "if 00", "if", "if 0 0", "look 0", "look 0 01", "look -1 2"):
            self.assertEqual(bad_line(f"new 0 : num : num\n{line}\n"), 2, line)

    def test_numbers_that_are_too_great_for_a_program(self):
        self.assertEqual(bad_line("new 0 : num : num\nnum 1000000000000\nback 1\n"), None)
        self.assertEqual(bad_line("new 0 : num : num\nnum -1000000000000\nback 1\n"), None)
        self.assertEqual(bad_line("new 0 : num : num\nnum 1000000000001\nback 1\n"), ("part", ("body", 0, "form")))
        self.assertEqual(bad_line("new 5 : num : num\nback 0\n"), ("part", ("body", 0, "form")))
        self.assertEqual(bad_line("choice 4\nform\nnew 0 : num : num\nback 0\n"), ("part", ("book", 0)))

    def test_lines_that_stand_where_they_cannot(self):
        body = "new 0 : num : num\nback 0\n"
        for text, line in (("form\n", 1), ("form ?0\n" + body, 1), (body + "choice 0\n", 3), (body + "form\n", 3),
                           ("choice 0\n" + body + "form\n", 4), ("num 5\n", 1), ("back 0\n", 1), (body + "back 0\n", 3),
                           (body + "num 5\n", 3), ("new 0 : num : num\nchoice 0\n", 2), ("new 0 : num : num\nform\n", 2),
                           ("new 0 : num : num\n" + body, 2), ("new 0 : num : num\nif 0\nback 0\n" + body, 4),
                           ("choice 0\nback 0\n", 2), ("choice 0\nform\nnum 5\n", 3), ("if 0\n", 1),
                           ("new 0 : num : num\nif 0\nback 0\nback 0\nback 0\n", 5),
                           ("new 0 : num : num\nlook 0 0\nback 0\n", 3), ("new 0 : num : num\nlook 0 1\nback 0\nback 0\n", 4)):
            self.assertEqual(bad_line(text), line, text)
            self.assertEqual(naive_program(text), line, text)

    def test_something_lacks_at_the_end(self):
        for text, line in (("new 0 : num : num\n", 2), ("new 0 : num : num\nnum 5\n", 3), ("new 0 : num : num\nif 0\n", 3),
                           ("new 0 : num : num\nif 0\nback 0\n", 4), ("new 0 : num : num\nlook 0 3\nback 0\nback 0\n", 5),
                           ("new 0 : num : num\nlook 0 9999999999999\nback 0\n", 4), ("choice 0\nform\nnew 0 : : nil\n", 4),
                           ("new 0 : num : num\nif 0\nif 0\nback 0\nback 0\n", 6)):
            self.assertEqual(bad_line(text), line, text)
            self.assertEqual(bad_line(text + "back 0"), line, text)

    def test_something_behind_the_last_line_feed(self):
        lines = TEXT.count("\n")
        for more in ("x", " ", "back 0", "new 0 : num : num", "choice 0", "\t"):
            self.assertEqual(bad_line(TEXT + more), lines + 1)
        for many in range(1, len(TEXT)):
            text = TEXT[:many]
            expected = naive_program(text)
            if isinstance(expected, int):
                self.assertEqual(bad_line(text), expected)
            else:
                self.assertEqual(text, TEXT[:TEXT.index("new 1")])
                self.assertEqual(bad_line(text), ("part", ("body", 0, "form")))
        # A line ahead is named first.
        self.assertEqual(bad_line("x\n" + TEXT + "x"), 1)
        self.assertEqual(bad_line("new 0 : num : num\nsum\nif"), 2)

    def test_bad_programs(self):
        body = "new 0 : num : num\nback 0\n"
        for text, part in (("choice 0\n" + body, ("book", 0)), ("choice 0\nform\nform\nform\nform\nform\n" + body, ("book", 0)),
                           ("choice 0\nform num num num num\n" + body, ("book", 0)), ("choice 0\nform\n" * 7 + body, ("book", -1)),
                           (body * 13, ("bodies",)), ("new 0 : ?0 : num\nback 0\n", ("body", 0, "kinds")),
                           ("new 0 : !num : num\nback 0\n", ("body", 0, "first")),
                           ("new 0 : num num num num num num : num\nback 0\n", ("body", 0, "form")),
                           ("new 0 : num : num\nrow\nback 0\n", ("body", 0, "form")),
                           ("new 0 : num : num\nrow 0 0 0 0 0\nback 0\n", ("body", 0, "form")),
                           ("new 0 : num : num\ncall 0 :\nback 0\n", ("step", 0, (0,))),
                           ("new 0 : num : num\nback 1\n", ("step", 0, (0,))),
                           ("new 0 : num : num\nlook 0 0\n", ("step", 0, (0,))),
                           ("new 0 : num : num\nway 0 0 : :\nback 0\n", ("body", 0, "form")),
                           ("new 0 : num : num\ntake 1 : :\nback 0\n", ("body", 0, "form")),
                           ("new 0 : num : " + "!" * 19 + "num\nback 0\n", ("body", 0, "kinds")),
                           ("new 0 : num : #0\nback 0\n", ("body", 0, "kinds"))):
            self.assertEqual(bad_line(text), ("part", part), text)
        self.assertEqual(bad_line("new 0 : num : " + "!" * 20 + "num\nback 0\n"), 1)

    def test_deep_blocks(self):
        for deep in (5, 6, 7, 100, 1600):
            text = "new 0 : num : num\n" + "if 0\n" * deep + "back 0\n" * (deep + 1)
            self.assertLessEqual(len(text), 20000)
            self.assertEqual(bad_line(text), None if deep < 6 else ("part", ("body", 0, "form")))
            self.assertEqual(bad_line(text[:-7]), 2 * deep + 2)
            text = "new 0 : num : num\n" + "look 0 1\n" * deep + "back 0\n"
            self.assertEqual(bad_line(text), ("part", ("step", 0, (0,)) if deep < 6 else ("body", 0, "form")))
        self.assertEqual(bad_line("new 0 : num : num\n" + "if 0\n" * 3900), 3902)

    def test_long_texts(self):
        self.assertEqual(bad_line("new 0 : num : num\n" + "nil\n" * 4900 + "back 0\n"), ("part", ("body", 0, "form")))
        self.assertEqual(bad_line("\n" * 20000), 1)
        self.assertEqual(bad_line("new 0 :" + " num" * 4900 + " : num\nback 0\n"), ("part", ("body", 0, "form")))
        self.assertEqual(bad_line("row " + "0 " * 9000 + "\n"), 1)

    def test_texts_with_one_sign_changed(self):
        chance = random.Random(7)
        seen = {"line": 0, "part": 0, "right": 0}
        for seed in range(120):
            book, bodies = (made_program if seed % 2 else made_holders)(random.Random(seed))
            if naive_part(book, bodies) is not None:
                continue
            text = program_text(Program(book, bodies))
            for _ in range(12):
                at = chance.randrange(len(text))
                other = chance.choice(["", " ", "\n", "0", "1", "7", "-", ":", "num", "?0", "back 0\n", "nil\n", "!", ",", "#1"])
                changed = text[:at] + other + text[at + chance.randrange(2):]
                answer = naive_program(changed)
                if isinstance(answer, int):
                    self.assertEqual(bad_line(changed), answer, changed)
                    seen["line"] += 1
                else:
                    part = naive_part(*answer)
                    self.assertEqual(bad_line(changed), None if part is None else ("part", part), changed)
                    seen["part" if part else "right"] += 1
                    if part is None:
                        self.assertEqual(read_program(changed), Program(*answer))
        self.assertTrue(all(many > 20 for many in seen.values()), seen)

    def test_main(self):
        self.assertEqual(read_program("new 0 : num : num\nback 0\n"), Program((), (main((), ("back", 0)),)))
        self.assertEqual(read_program(program_text(using(2))), using(2))


if __name__ == "__main__":
    unittest.main()
