"""The desk: each form of a line, lines of no form, and what is refused."""

import unittest

from barewords.desk import Desk
from barewords.errors import BadProgram, BadText, NoForm, NoInputs, NoName, NoNumber, NothingChosen, NothingDone
from barewords.images import image
from barewords.keeper import Keeper
from barewords.plain import plain
from barewords.programs import Program
from barewords.telling import met, open_spots, told
from barewords.texts import program_text
from samples import NUM, counting, hold, main, odd_things, program
from states import behind, lists, nested, using

SAMPLES = {"hold": hold, "counting": counting, "nested": nested, "using": using, "lists": lists}


def piped(one):
    return program_text(one).replace("\n", "|")


def kept(*names):
    """A desk with these programs."""
    desk = Desk()
    for name in names:
        desk.tell(f"program {name} {piped(SAMPLES[name]())}")
    return desk


def inside(desk):
    """All that a desk tells."""
    found = [desk.tell("names"), desk.undoable()]
    for line in ("told", "met", "image", "on 7"):
        try:
            found.append(desk.tell(line))
        except NothingChosen:
            found.append(None)
    for name in desk.tell("names").split():
        for most in (0, 3, 100):
            try:
                found.append(desk.tell(f"plain {name} {most} 5"))
            except (NoInputs, NoName):
                found.append(None)
    return found


class DeskCase(unittest.TestCase):
    def refused(self, desk, line, error, *fields):
        ahead = inside(desk)
        with self.assertRaises(error) as caught:
            desk.tell(line)
        self.assertIs(type(caught.exception), error, line)
        self.assertEqual(tuple(vars(caught.exception).values()), fields)
        self.assertEqual(inside(desk), ahead)


class ProgramsTest(DeskCase):
    def test_names(self):
        desk = Desk()
        self.assertEqual(desk.tell("names"), "none")
        for name, names in (("hold", "hold"), ("lists", "hold lists"), ("counting", "counting hold lists")):
            self.assertEqual(desk.tell(f"program {name} {piped(SAMPLES[name]())}"), "ok")
            self.assertEqual(desk.tell("names"), names)
        self.assertEqual(desk.tell("drop hold"), "ok")
        self.assertEqual(desk.tell("names"), "counting lists")
        desk.tell("drop counting")
        desk.tell("drop lists")
        self.assertEqual(desk.tell("names"), "none")

    def test_undo(self):
        desk = Desk()
        self.refused(desk, "undo", NothingDone)
        lines = ["program a " + piped(hold()), "program b " + piped(counting()), "drop a", "program b " + piped(lists()),
                 "program a " + piped(nested()), "drop b", "drop a", "program a " + piped(using())]
        seen = [inside(desk)]
        for number, line in enumerate(lines, 1):
            self.assertEqual(desk.tell(line), "ok")
            self.assertEqual(desk.undoable(), number)
            seen.append(inside(desk))
        self.assertEqual([one[0] for one in seen], ["none", "a", "a b", "b", "b", "a b", "a", "none", "a"])
        for number in range(len(lines), 0, -1):
            self.assertEqual(inside(desk), seen[number])
            self.assertEqual(desk.tell("undo"), "ok")
            self.assertEqual(desk.undoable(), number - 1)
        self.assertEqual(inside(desk), seen[0])
        self.refused(desk, "undo", NothingDone)
        # What was taken back is not taken back once more; a further line is.
        desk.tell(lines[0])
        desk.tell(lines[1])
        desk.tell("undo")
        desk.tell(lines[3])
        desk.tell("undo")
        self.assertEqual((desk.tell("names"), desk.undoable()), ("a", 1))

    def test_in_the_place_of_an_elder_one(self):
        desk = kept("hold")
        self.assertEqual(desk.tell("plain hold 100 5"), "10 over")
        desk.tell("program hold " + piped(counting()))
        self.assertEqual(desk.tell("plain hold 100 5"), "5 15 over")
        self.assertEqual((desk.tell("names"), desk.undoable()), ("hold", 2))
        desk.tell("undo")
        self.assertEqual(desk.tell("plain hold 100 5"), "10 over")
        desk.tell("undo")
        self.assertEqual(desk.tell("names"), "none")

    def test_other_lines_are_not_taken_back(self):
        desk = kept("hold")
        for line in ("names", "plain hold 3 5", "at hold 2 5", "told", "met", "image", "over hold", "on 5"):
            desk.tell(line)
            self.assertEqual(desk.undoable(), 1)
        desk.tell("undo")
        self.assertEqual(desk.tell("names"), "none")
        self.assertEqual(desk.tell("met"), "100")

    def test_refused_lines_are_not_taken_back(self):
        desk = kept("hold")
        self.refused(desk, "drop lists", NoName, "lists")
        self.refused(desk, "program hold x", BadText, 1)
        self.refused(desk, "program hold new 0 : nil : num|back 0|", BadProgram, ("body", 0, "first"))
        self.assertEqual(desk.undoable(), 1)

    def test_texts(self):
        desk = Desk()
        for text, error, field in (("x", BadText, 1), (" ", BadText, 1), ("|", BadText, 1), ("choice 0|form|x|", BadText, 3),
                                   ("new 0 : num : num|back 0", BadText, 2), ("new 0 : num : num|", BadText, 2),
                                   (" new 0 : num : num|back 0|", BadText, 1), ("new 0 : num : num|back 0||", BadText, 3),
                                   ("new 0 : num : num|back 0|\t", BadText, 3), ("choice 0|form|", BadProgram, ("bodies",)),
                                   ("new 0 : num : num|back 1|", BadProgram, ("step", 0, (0,)))):
            self.refused(desk, "program a " + text, error, field)
        for name in ("a", "z", "abcdefgh", "ok", "names", "program", "none", "undo"):
            self.assertEqual(desk.tell(f"program {name} new 0 : num : num|back 0|"), "ok")
        self.assertEqual(desk.tell("names"), "a abcdefgh names none ok program undo z")
        self.assertEqual(desk.tell("plain names 1 7"), "7 over")


class RunsTest(DeskCase):
    def test_plain(self):
        desk = kept(*SAMPLES)
        for name, sample in SAMPLES.items():
            for number in (-3, 0, 5) if name != "counting" else (0, 5):
                for most in (0, 1, 2, 5, 8, 11, 30, 100000):
                    said, is_over = plain(sample(), (number,), most)
                    expected = (" ".join(map(str, said)) or "none") + (" over" if is_over else " on")
                    self.assertEqual(desk.tell(f"plain {name} {most} {number}"), expected)
        self.assertEqual(desk.tell("plain hold 0 5"), "none on")
        self.assertEqual(desk.tell("plain counting 4 5"), "5 on")

    def test_inputs(self):
        desk = Desk()
        desk.tell("program none new 0 : : num|num 3|back 0|")
        desk.tell("program five new 0 : num num num num num : num|print 4|print 0|back 2|")
        self.assertEqual(desk.tell("plain none 9"), "3 over")
        self.assertEqual(desk.tell("plain five 9 1 -2 999999999 -999999999 0"), "0 1 999999999 over")
        self.assertEqual(desk.tell("at none 9"), "ok")
        self.assertEqual(desk.tell("at five 1 1 2 3 4 5"), "ok")
        self.assertEqual(desk.tell("image"), image((((0, (1,), (1, 2, 3, 4, 5, 0)),), (), (5,))).replace("\n", "|"))
        self.assertEqual(desk.tell("plain five 9 -0 0 -0 0 0"), "0 0 0 over")
        for line in ("plain none 9 1", "plain five 9", "plain five 9 1 2 3 4", "plain five 9 1 2 3 4 5 6", "at none 9 1", "at five 1",
                     "plain none 100001 1", "at none 100001 1"):
            self.refused(desk, line, NoInputs)
        for line in ("plain none 100001", "at none 100001", "plain none 999999999", "at five 999999999 1 2 3 4 5"):
            self.refused(desk, line, NoNumber)

    def test_great_numbers(self):
        # By each call the number comes to be twice as much; a number of more than 4300 figures is written, too.
        desk = Desk()
        desk.tell("program a new 0 : num num : num|body 1 : : 0 1|back 2|new 0 : num num : num|if 0|num -1|sum 0 2|sum 1 1|"
                  "body 1 : : 3 4|back 5|print 1|back 1|")
        answer = desk.tell("plain a 100000 3000 1").split(" ")
        self.assertEqual(answer, [str(2 ** 3000)] * 2 + ["over"])
        answer = desk.tell("plain a 100000 15000 1").split(" ")
        number = 0
        for at in range(0, len(answer[0]), 100):
            number = number * 10 ** len(answer[0][at:at + 100]) + int(answer[0][at:at + 100])
        self.assertEqual(number, 2 ** 15000)

    def test_at(self):
        desk = kept(*SAMPLES)
        for name, sample in SAMPLES.items():
            one = sample()
            for steps in list(range(14)) + [100000]:
                self.assertEqual(desk.tell(f"at {name} {steps} 5"), "ok")
                most = 0
                while most < min(steps, 200) and not plain(one, (5,), most)[1]:
                    most += 1
                state = behind(one, (5,), most)
                self.assertEqual(desk.tell("image"), image(state).replace("\n", "|"))
                self.assertEqual(desk.tell("told"), f"{len(told(one, state))} {len(open_spots(one, state))}")
                self.assertEqual(desk.tell("met"), " ".join(map(str, met(one, state))) or "none")
                self.assertEqual(desk.tell(f"over {name}"), "yes")
                for more in (0, 1, 5, 100000):
                    said, is_over = plain(one, (5,), min(most + more, 100000))
                    expected = (" ".join(map(str, said)) or "none") + (" over" if is_over else " on")
                    self.assertEqual(desk.tell(f"on {more}"), expected)
                    self.assertEqual(desk.tell("image"), image(state).replace("\n", "|"))

    def test_over(self):
        desk = kept("hold", "counting", "nested")
        desk.tell("at hold 2 5")
        self.assertEqual([desk.tell("over " + name) for name in ("hold", "counting", "nested")], ["yes", "no", "yes"])
        desk.tell("at counting 30 5")
        self.assertEqual([desk.tell("over " + name) for name in ("hold", "counting", "nested")], ["no", "yes", "no"])
        desk.tell("at hold 100 5")
        self.assertEqual([desk.tell("over " + name) for name in ("hold", "counting", "nested")], ["yes", "yes", "yes"])

    def test_the_state_that_was_chosen_stays(self):
        desk = kept("hold")
        desk.tell("at hold 2 5")
        ahead = [desk.tell(line) for line in ("told", "met", "image", "on 100")]
        self.assertEqual(ahead, ["5 2", "100", image(behind(hold(), (5,), 2)).replace("\n", "|"), "10 over"])
        for line in ("program hold " + piped(counting()), "drop hold", "undo", "undo", "undo"):
            desk.tell(line)
            self.assertEqual([desk.tell(line) for line in ("told", "met", "image", "on 100")], ahead)
        for line, error in (("at hold 2 5", NoName), ("at", NoForm), ("at hold x 5", NoForm)):
            with self.assertRaises(error):
                desk.tell(line)
        desk.tell("program hold " + piped(hold()))
        for line, error in (("at hold 2", NoInputs), ("at hold 100001 5", NoNumber), ("at hold 2 5 5", NoInputs)):
            self.refused(desk, line, error)
        self.assertEqual([desk.tell(line) for line in ("told", "met", "image", "on 100")], ahead)

    def test_two_desks_apart(self):
        one, two = kept("hold"), kept("lists")
        one.tell("at hold 2 5")
        self.refused(two, "told", NothingChosen)
        two.tell("at lists 3 5")
        self.assertNotEqual(one.tell("image"), two.tell("image"))
        self.refused(two, "drop hold", NoName, "hold")
        one.tell("undo")
        self.assertEqual((one.undoable(), two.undoable()), (0, 1))
        self.assertEqual(two.tell("names"), "lists")

    def test_many_cells(self):
        desk = kept("counting")
        desk.tell("at counting 100000 300")
        self.assertEqual(desk.tell("on 0"), "300 45150 over")
        desk.tell("at counting 1450 300")
        cells = desk.tell("met").split(" ")
        self.assertEqual(cells, [str(place) for place in range(100, 100 + len(cells))])
        self.assertGreater(len(cells), 50)


class NoFormTest(DeskCase):
    def test_lines_of_no_form(self):
        desk = kept("hold")
        desk.tell("at hold 2 5")
        lines = ["", " ", "x", "hold", "names names", "names ", " names", "Names", "NAMES", "name", "undo 1", "undo ", "told 5", "told ",
                 "met hold", "image ", "images", "over", "over ", "over hold hold", "over  hold", "over hold ", "over Hold",
                 "over hold1", "over ninenames", "over h-d", "on", "on ", "on x", "on 5 5", "on -1", "on 05", "on 00", "on 5 ", "on  5",
                 "on 1234567890", "on 0000000005", "on +5", "on 5.", "on 1_0", "drop", "drop ", "drop hold hold", "drop hold ",
                 "drop  hold", "drop HOLD", "drop abcdefghi", "drop 7", "program", "program ", "program hold", "program hold ",
                 "program  hold x", "program Hold x", "program abcdefghi x", "program hold1 x", "program\thold x", "program |hold x",
                 "plain", "plain ", "plain hold", "plain hold ", "plain hold x 5", "plain hold 5 ", "plain hold 5  5", "plain  hold 5 5",
                 "plain hold -1 5", "plain hold 05 5", "plain hold 5 05", "plain hold 5 5x", "plain hold 5 --5", "plain hold 5 -05",
                 "plain hold 5 -", "plain hold 1234567890 5", "plain hold 5 1234567890", "plain hold 5 -1234567890", "plain hold 5 +5",
                 "plain hold 5 5,5", "plain 5 hold 5", "plain abcdefghi 5 5", "Plain hold 5 5", "plain\thold 5 5", "plain hold\t5 5",
                 "at", "at hold", "at hold ", "at hold x 5", "at hold 2 5 ", "at hold -0 5", "at hold 00 5", "at hold 2  5", "At hold 2 5",
                 "at hold 2 0x5", "at hold 0123456789 5", "at hold 2 -", "told\n", "\ntold", "names\n", "plain hold 5\n5", "undo\n",
                 "program hold new 0 : num : num\nback 0\n", "program hold x\n", "on 5\n", "drop hold\n", "over\nhold", "told\t",
                 "nothing", "help", "program-hold x", "journal", "~", "\t", "|", "met|", "plain hold 5 5|"]
        for line in lines:
            self.refused(desk, line, NoForm)
            self.refused(Desk(), line, NoForm)

    def test_no_string(self):
        desk = kept("hold")
        for thing in odd_things() + [Desk(), Keeper(hold(), (5,), 1), ["names"], ("names",), b"names"]:
            if type(thing) is not str:
                self.refused(desk, thing, NoForm)

    def test_figures_and_letters(self):
        desk = Desk()
        self.refused(desk, "plain abcdefgh 999999999 999999999 -999999999", NoName, "abcdefgh")
        self.refused(desk, "plain a 0", NoName, "a")
        self.refused(desk, "on 999999999", NothingChosen)

    def test_long_lines(self):
        self.refused(Desk(), "x" * 20000, NoForm)
        self.refused(Desk(), "plain a 5" + " 5" * 9000, NoName, "a")
        self.refused(Desk(), "program a " + "|" * 19000, BadText, 1)


class OrderTest(DeskCase):
    def test_no_name_ahead_of_nothing_chosen(self):
        desk = kept("hold")
        self.refused(desk, "over lists", NoName, "lists")
        self.refused(desk, "over hold", NothingChosen)
        for line in ("told", "met", "image", "on 5", "on 999999999"):
            self.refused(desk, line, NothingChosen)
        desk.tell("at hold 0 5")
        self.refused(desk, "over lists", NoName, "lists")
        self.refused(desk, "on 100001", NoNumber)
        self.assertEqual(desk.tell("met"), "none")
        self.assertEqual(desk.tell("told"), "1 0")

    def test_no_name_ahead_of_what_functions_raise(self):
        desk = Desk()
        for line in ("plain a 100001", "plain a 5 1 2 3", "at a 100001", "at a 5 1 2 3", "drop a", "over a"):
            self.refused(desk, line, NoName, "a")
        desk.tell("program a " + piped(hold()))
        for line in ("plain a 100001", "at a 100001 1 2"):
            self.refused(desk, line, NoInputs)
        for line in ("plain a 100001 5", "at a 100001 5"):
            self.refused(desk, line, NoNumber)
        desk.tell("drop a")
        self.refused(desk, "plain a 5 5", NoName, "a")


class ValuesTest(unittest.TestCase):
    def test_strings_and_numbers(self):
        desk = kept("hold")
        desk.tell("at hold 2 5")
        for line in ("names", "plain hold 5 5", "told", "met", "image", "over hold", "on 5", "undo"):
            self.assertIs(type(desk.tell(line)), str)
        self.assertIs(type(desk.undoable()), int)

    def test_equal_to_nothing_else(self):
        desk = Desk()
        for thing in odd_things() + [Desk()]:
            self.assertFalse(desk == thing)
        self.assertEqual(Program((), (main((), ("back", 0)),)), program((), ("back", 0), places=(NUM,)))


if __name__ == "__main__":
    unittest.main()
