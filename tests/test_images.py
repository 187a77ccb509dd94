"""Images: states written and read, lines that are written otherwise, and states that are not taken over."""

import unittest

from barewords.collecting import collected
from barewords.desk import Desk
from barewords.errors import BadImage, BadPlacer, NoOver
from barewords.images import image, loaded, read_image
from barewords.keeper import Keeper
from barewords.telling import met
from naive_states import naive_end, naive_fault, naive_image, naive_read
from samples import counting, hold, odd_things, program
from states import PLACERS, behind, lists, nested, upwards, using

STATE = (((0, (1,), (5, 7)), (1, (0,), (5, 5, 5))), ((7, (1, 5, 5)),), (3, -4))
TEXT = "said 3 -4\nframe 0 1 5,7\nframe 1 0 5,5,5\ncell 7 1,5,5\n"


def closed(text):
    """The lines with the right last one."""
    return text + naive_end(text)


def bad_line(text, sample=hold):
    try:
        read_image(sample(), text)
    except BadImage as error:
        return error.line
    return None


class WrittenTest(unittest.TestCase):
    def test_lines(self):
        self.assertEqual(image(STATE), TEXT + naive_end(TEXT))
        self.assertEqual(image(((), (), ())), "said\nend 1074\n")
        self.assertEqual(sum(at * ord(sign) for at, sign in enumerate("said\n", 1)) % 9973, 1074)
        self.assertEqual(image(((), ((-5, ()),), (10,))), closed("said 10\ncell -5 -\n"))

    def test_check_of_a_long_one(self):
        text = "said 1 2 3\nframe 0 0 5\n"
        check = sum(at * ord(sign) for at, sign in enumerate(text, 1))
        self.assertGreater(check, 9973)
        self.assertEqual(image((((0, (0,), (5,)),), (), (1, 2, 3))), f"{text}end {check % 9973}\n")

    def test_any_triple_of_the_form(self):
        state = (((-3, (-4,), ()), (7, (-1, -2, 10 ** 39), (-5,))), ((-10 ** 40 + 1, ()), (0, (0, -1))), (0, -10 ** 39))
        self.assertEqual(image(state), naive_image(state))
        self.assertEqual(image(state).split("\n")[1:5], [
            "frame -3 -4 -", f"frame 7 -1.-2.{10 ** 39} -5", f"cell {1 - 10 ** 40} -", "cell 0 0,-1"])

    def test_numbers_of_any_length(self):
        for figures in (63, 64, 65, 127, 128, 129, 4000, 4001, 4300, 4301, 9000):
            for text in ("9" * figures, "1" + "0" * (figures - 1), "12" * (figures // 2) + "7" * (figures % 2)):
                number = 0
                for at in range(0, figures, 50):
                    number = number * 10 ** len(text[at:at + 50]) + int(text[at:at + 50])
                for sign, one in (("", number), ("-", -number)):
                    self.assertEqual(image(((), ((one, (5, one)),), (one,))), closed(
                        f"said {sign}{text}\ncell {sign}{text} 5,{sign}{text}\n"))

    def test_there_and_back(self):
        for sample, most in ((hold, 6), (counting, 30), (nested, 9), (using, 12), (lists, 18)):
            for steps in range(most + 1):
                for placer in PLACERS:
                    state = behind(sample(), (-5 if steps < 2 else 5,), steps, placer)
                    self.assertEqual(image(state), naive_image(state))
                    self.assertEqual(naive_read(image(state)), (state, None))
                    self.assertEqual(read_image(sample(), image(state)), state)

    def test_numbers_of_4000_figures(self):
        one = program((), ("back", 0))
        for figures, line in ((40, None), (3999, None), (4000, None), (4001, 2), (4300, 2), (4301, 2), (5000, 2)):
            for sign in ("", "-"):
                text = sign + "9" * figures
                self.assertEqual(bad_line(closed(f"said\nframe 0 0 {text}\n"), lambda: one), line)
                self.assertEqual(bad_line(closed(f"said\nframe 0 0 1\ncell {text} -\n"), lambda: one), line and 3)
                self.assertEqual(bad_line(closed(f"said\nframe 0 0 1\ncell 7 {text}\n"), lambda: one), line and 3)
                self.assertEqual(bad_line(closed(f"said 1 {text}\nframe 0 0 1\n"), lambda: one), line and 1)
                if line is None:
                    self.assertEqual(read_image(one, closed(f"said\nframe 0 0 {text}\n"))[0][0][2], (int(text),))

    def test_places_of_many_figures(self):
        state = (STATE[0], ((-10 ** 40 + 1, ()), (-5, (5,)), (7, (1, 5, 5)), (10 ** 40 - 1, (8, 8))), (3,))
        self.assertEqual(read_image(hold(), image(state)), state)

    def test_over(self):
        for state in (behind(hold(), (5,), 6), ((), (), ()), ((), ((-1, ()), (5, (6, 7))), (1, 2))):
            for one in (hold(), lists(), counting()):
                self.assertEqual(read_image(one, image(state)), state)


class LinesTest(unittest.TestCase):
    """Each line of a right image written otherwise, the rest being right."""

    def lines(self, at, *others, line=None):
        """Each of the other lines in the place of one, with a right end, is bad."""
        right = TEXT.split("\n")[:-1]
        for other in others:
            text = closed("".join(one + "\n" for one in right[:at] + [other] + right[at + 1:]))
            self.assertEqual(bad_line(text), line or at + 1, other)
            self.assertEqual(naive_read(text)[1], line or at + 1, other)

    def test_right(self):
        self.assertEqual(read_image(hold(), closed(TEXT)), STATE)

    def test_said(self):
        self.lines(0, "", "Said 3 -4", "said 3  -4", "said 3 -4 ", " said 3 -4", "said\t3 -4", "said 03 -4", "said 3 --4",
                   "said 3 -04", "said 3 +4", "said -0", "said 3,-4", "said -", "said 3 4x", "said 3 4.0", "said 1_0",
                   "said ", "say 3", "frame 0 1 5,7", "end 1074", "end 0", "said3 -4", "said 3 - 4", "cell 7 1,5,5")

    def test_frame(self):
        for at, right in ((1, "frame 0 1 5,7"), (2, "frame 1 0 5,5,5")):
            self.lines(at, "", "said", "said 3 -4", right.upper(), right + " ", " " + right, right.replace(" ", "  ", 1),
                       right.replace("frame", "Frame"), right.replace(" ", "\t", 1), right + ",", right.replace(",", ",,", 1),
                       right.replace(",", ", ", 1), right.replace(",", " ", 1), right.replace("5", "05", 1),
                       right.replace("5", "-0", 1), right.replace("5", "+5", 1), right.replace("5", "5.", 1),
                       right.replace("5", "x", 1), right + ",-", "frame 0 1", "frame", "frame 0 1 ", "frame 0  5,7",
                       "frame - 1 5,7", "frame 0 1. 5,7", "frame 0 .1 5,7", "frame 0 1..0 5,7", "frame 0 1,0 5,7",
                       "frame 0 01 5,7", "frame 00 1 5,7", "frame 0 -0 5,7", "frame 0 1 --", "frame 0 1 -,5", "end 7",
                       "frame 0 1 5,7 5,7", "frame 0 -- 5,7", "frames 0 1 5,7", "end", "frame 0 0x1 5,7", "frame 0 1.- 5,7")

    def test_a_point_always_has_an_integer(self):
        self.lines(1, "frame 0 - 5,7", "frame 0 - -", "frame -1 - 5,7", "frame 7 - -", "frame 0 -.1 5,7", "frame 0 .- 5,7")
        self.lines(2, "frame 1 - 5,5,5", "frame 1 - -", "frame 0 - 5", "frame 1 0.- 5,5,5", "frame 1 -. 5,5,5")

    def test_a_line_without_a_point_is_named_ahead_of_what_is_behind_it(self):
        for end in ("end", "end 1\n", "", "\n", "cell 7 -\n", "cell x\n", "frame 1 - 5\n", "said\n", "frame 0 0 5\nend 0\nend"):
            for ahead, line in (("", 2), ("frame 0 0 5\n", 3), ("frame 0 1 5,7\nframe 0 0 -\n", 4)):
                text = f"said\n{ahead}frame 0 - 5\n{end}"
                for one in (text, closed(text)):
                    self.assertEqual(bad_line(one), line, one)
                    self.assertEqual(naive_read(one)[1], line, one)

    def test_no_words(self):
        one = program((), ("if", 0, ((), ("back", 0)), ((), ("back", 0))))
        none = program((("num", 1),), ("back", 0), places=())
        self.assertEqual(read_image(none, closed("said\nframe 0 0 -\n")), (((0, (0,), ()),), (), ()))
        self.assertEqual(read_image(one, closed("said\nframe 0 0.1.0 5\ncell 7 -\n")), (((0, (0, 1, 0), (5,)),), ((7, ()),), ()))

    def test_cell(self):
        self.lines(3, "", "said", "said 3 -4", "Cell 7 1,5,5", "cell 7 1,5,5 ", "cell  7 1,5,5", "cell 7  1,5,5", "cell 7",
                   "cell 7 ", "cell", "cell - 1,5,5", "cell 07 1,5,5", "cell 7 1,5,", "cell 7 ,1,5", "cell 7 1,,5", "cell 7 1 5 5",
                   "cell 7 1.5.5", "cell 7 -0", "cell 7 01", "cell -0 1", "cell 7 --", "cell 7 1,-", "call 7 1,5,5",
                   "cell 7\t1,5,5", "cell 7 1;5;5", "cell 7 +1,5,5", "cell 7,8 1", "end 5", "end -5", "cells 7 1,5,5")

    def test_two_cells_at_one_place_and_cells_not_ascending(self):
        for more, line in (("cell 7 1,5,5\n", 5), ("cell 6 -\n", 5), ("cell -8 -\n", 5), ("cell 8 -\n", None),
                           ("cell 70 -\ncell 8 -\n", 6), ("frame 1 0 5,5,5\n", 5), ("said 3 -4\n", 5), ("cell 8 0\nframe 0 0 5\n", 6)):
            self.assertEqual(bad_line(closed(TEXT + more)), line)
            self.assertEqual(naive_read(closed(TEXT + more))[1], line)

    def test_lines_left_out_twice_and_exchanged(self):
        right = TEXT.split("\n")[:-1]

        def check(lines):
            text = closed("".join(one + "\n" for one in lines))
            state, line = naive_read(text)
            self.assertEqual(bad_line(text) if line else None, line)
            if line is None and naive_fault(hold(), state) is None:
                self.assertEqual(read_image(hold(), text), state)
            elif line is None:
                with self.assertRaises(NoOver):
                    read_image(hold(), text)
        for at in range(4):
            check(right[:at] + right[at + 1:])
            check(right[:at] + [right[at]] + right[at:])
            for other in range(4):
                if right[at] != right[other]:
                    lines = list(right)
                    lines[at], lines[other] = right[other], right[at]
                    check(lines)

    def test_end(self):
        right = naive_end(TEXT)
        check = int(right[4:])
        for end in (f"end {check + 1}\n", f"end {check - 1}\n", f"end {check + 9973}\n", f"end 0{check}\n", f"end {check} \n",
                    f"end  {check}\n", "end\n", "end \n", f"END {check}\n", f"end {check}.\n", f"end -{check}\n", "end 0\n",
                    f" end {check}\n", f"end\t{check}\n", "", f"end {check}", f"{check}\n", "\n", "e", f"end +{check}\n"):
            self.assertEqual(bad_line(TEXT + end), 5, end)
            self.assertEqual(naive_read(TEXT + end)[1], 5, end)
        # A wrong one is named ahead of what is behind it.
        self.assertEqual(bad_line(TEXT + f"end {check + 1}\n" + right), 5)
        self.assertEqual(bad_line(TEXT + "end\nsaid\n"), 5)

    def test_the_end_is_lacking(self):
        self.assertEqual(bad_line(""), 1)
        text = closed(TEXT)
        for many in range(len(text)):
            lines = text[:many].count("\n")
            self.assertEqual(bad_line(text[:many]), lines + 1)
            self.assertEqual(naive_read(text[:many])[1], lines + 1)

    def test_further_lines(self):
        text = closed(TEXT)
        for more in ("\n", "x", " ", text, "end 0\n", "cell 8 -\n", naive_end(text), "said", "\n\n\n", "frame"):
            self.assertEqual(bad_line(text + more), 6)
            self.assertEqual(naive_read(text + more)[1], 6)

    def test_one_sign_changed(self):
        text = closed(TEXT)
        for at, sign in enumerate(text):
            for other in "0179-, .xs\n\t~":
                changed = text[:at] + other + text[at + 1:]
                state, line = naive_read(changed)
                if other == sign:
                    self.assertEqual(state, STATE)
                    continue
                self.assertIsNotNone(line)
                self.assertEqual(bad_line(changed), line)

    def test_no_string(self):
        for thing in odd_things() + [Desk(), Keeper(hold(), (5,), 1), STATE]:
            if type(thing) is not str:
                self.assertEqual(bad_line(thing), 0)
                with self.assertRaises(BadImage) as caught:
                    loaded(hold(), thing, None)
                self.assertEqual(caught.exception.line, 0)
            else:
                self.assertEqual(bad_line(thing), 1)

    def test_long_strings(self):
        self.assertEqual(bad_line("\n" * 20000), 1)
        self.assertEqual(bad_line("said\n" * 4000), 2)
        self.assertEqual(bad_line("said\n" + "cell 5 " + ",".join("1" * 9000) + "\n"), 3)
        self.assertEqual(bad_line("said" + " 1" * 9000 + "\n"), 2)


class NoOverTest(unittest.TestCase):
    def test_states_that_are_not_taken_over(self):
        for text in ("said\nframe 0 0 -\n", "said\nframe 1 0 5,5,5\n", "said\nframe -1 0 5\n", "said\nframe 2 0 5\n",
                     "said\nframe 0 -1 5\n", "said\nframe 0 0.-1 5\n", "said\nframe 0 0.0 5\n", "said\nframe 0 1 5,7\n",
                     "said\nframe 0 1 5,7\ncell 7 -\n", "said\nframe 0 1 5,7\ncell 7 1,5\n", "said\nframe 0 0 5,5\n",
                     "said\nframe 0 1 5,7\nframe 0 0 5\ncell 7 2,5,5\n",
                     f"said\nframe {'9' * 4000} 0 5\n", f"said\nframe 0 {'9' * 4000} 5\n", "said\nframe 7 -1 -\n"):
            self.assertEqual(naive_read(closed(text))[1], None, text)
            with self.assertRaises(NoOver):
                read_image(hold(), closed(text))
            with self.assertRaises(NoOver):
                loaded(hold(), closed(text), None)
        with self.assertRaises(NoOver):
            read_image(counting(), image(STATE))
        # The form comes ahead of this.
        self.assertEqual(bad_line("said\nframe 7 0 -\nend 0\n"), 3)

    def test_other_programs(self):
        for one in (hold(), program((), ("back", 0)), nested()):
            self.assertEqual(read_image(one, closed("said\nframe 0 0 5\n")), (((0, (0,), (5,)),), (), ()))


class LoadedTest(unittest.TestCase):
    def test_as_collected(self):
        for sample, most in ((hold, 6), (counting, 30), (nested, 9), (using, 12), (lists, 18)):
            for steps in range(most + 1):
                one = sample()
                state = behind(one, (5,), steps)
                for placer in PLACERS:
                    self.assertEqual(loaded(one, image(state), placer), collected(one, state, placer))

    def test_what_read_image_does_not_take(self):
        for text, line in (("said\nframe 0 - 5\n", 2), ("said\nframe 0 1 5,7\nframe 1 - 5,5,5\ncell 7 1,5,5\n", 3)):
            for one in (text, text + "end", closed(text)):
                with self.assertRaises(BadImage) as caught:
                    loaded(hold(), one, upwards)
                self.assertEqual(caught.exception.line, line)

    def test_where_the_placer_is_asked(self):
        seen = []

        def placer(places):
            seen.append(places)
            return [9, 3, 5, 4][len(places)]
        one = using(2)
        state = behind(one, (5,), 6)
        answer = loaded(one, image(state), placer)
        self.assertEqual(seen, [(), (9,), (3, 9), (3, 5, 9)])
        self.assertEqual(answer, collected(one, state, lambda places: [9, 3, 5, 4][len(places)]))
        self.assertEqual(met(one, answer), (3, 4, 5, 9))

    def test_bad_placer(self):
        one = using(2)
        text = image(behind(one, (5,), 6))
        for number in range(4):
            for thing in (None, True, "5", 5.5, [5], (5,), "taken"):
                def placer(places):
                    if len(places) < number:
                        return len(places)
                    return 0 if thing == "taken" and places else thing
                with self.assertRaises(BadPlacer) as caught:
                    loaded(one, text, placer)
                self.assertEqual(caught.exception.number, number)

        def raises(places):
            raise KeyError(5)
        with self.assertRaises(KeyError):
            loaded(one, text, raises)


if __name__ == "__main__":
    unittest.main()
