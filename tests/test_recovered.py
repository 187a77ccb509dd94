"""Journals that are cut, changed and led on."""

import unittest

from barewords.desk import Desk
from barewords.errors import NoNumber, NoRecord, NoText
from barewords.images import image
from barewords.keeper import Keeper, recovered
from barewords.machine import begun
from barewords.plain import plain
from barewords.programs import Program
from naive_states import naive_end, naive_fault, naive_read
from samples import counting, hold, odd_things, program
from states import behind, downwards, lists, nested, upwards, using


def naive_recovered(sample, journal):
    """The records at the front, told by trying each beginning of what is left."""
    records, state = [], None
    while True:
        rest = journal[sum(map(len, records)):]
        for close in [at + 1 for at, sign in enumerate(rest) if sign == "\n"]:
            other, _ = naive_read(rest[:close])
            if other is not None:
                break
        else:
            return records, state
        if naive_fault(sample, other) is not None or state and other[2][:len(state[2])] != state[2]:
            return records, state
        records.append(rest[:close])
        state = other


def led(sample, inputs, each, most=1000, placer=upwards):
    keeper = Keeper(sample, inputs, each)
    keeper.go(most, placer)
    return keeper


class RecoveredCase(unittest.TestCase):
    def check(self, sample, journal, records=None, each=1):
        """What is recovered, against the naive telling, or against the records told."""
        if records is None:
            records = naive_recovered(sample, journal)[0]
        if not records:
            with self.assertRaises(NoRecord):
                recovered(sample, journal, each)
            return None
        answer = recovered(sample, journal, each)
        self.assertIs(type(answer), tuple)
        keeper, many = answer
        self.assertIs(type(keeper), Keeper)
        self.assertEqual(many, sum(map(len, records)))
        self.assertEqual(keeper.journal(), journal[:many])
        self.assertEqual(keeper.state(), naive_read(records[-1])[0])
        self.assertIs(keeper.is_over(), not keeper.state()[0])
        self.assertEqual(keeper.steps(), 0)
        return keeper


class CutTest(RecoveredCase):
    def test_cut_at_every_sign(self):
        for sample, inputs, each in ((hold(), (5,), 1), (nested(), (5,), 1), (using(), (5,), 2), (counting(), (2,), 1)):
            journal = led(sample, inputs, each).journal()
            said = plain(sample, inputs, 1000)
            first = len(image(begun(sample, inputs)))
            for many in range(len(journal) + 1):
                keeper = self.check(sample, journal[:many])
                self.assertEqual(keeper is None, many < first)
                if keeper is not None and many % 7 == 0:
                    keeper.go(1000, downwards)
                    self.assertEqual((keeper.state()[2], keeper.is_over()), said)
                    self.assertEqual(keeper.journal()[:first], journal[:first])

    def test_what_stands_behind_is_left_out(self):
        journal = led(nested(), (5,), 1).journal()
        records = naive_recovered(nested(), journal)[0]
        self.assertEqual(len(records), 4)
        for more in ("x", "\n", "said\n", "end 0\n", "said\nend 1074", "said 5\nframe 7 0 5\n" + naive_end("said 5\nframe 7 0 5\n"),
                     "\n" + journal, " " + journal, "said\nend 1075\n" + journal, "frame 0 0 5\n" + journal, "~" * 5000):
            self.check(nested(), journal + more, records)
            keeper, many = recovered(nested(), journal + more, 1)
            self.assertEqual(many, len(journal))
            self.assertEqual(keeper.journal(), journal)


class ChangedTest(RecoveredCase):
    def test_one_sign_changed(self):
        sample = nested()
        journal = led(sample, (5,), 1).journal()
        for at in range(len(journal)):
            for sign in "7 \n-":
                if journal[at] != sign:
                    changed = journal[:at] + sign + journal[at + 1:]
                    ahead = 0
                    records = []
                    for record in naive_recovered(sample, journal)[0]:
                        if ahead + len(record) > at:
                            break
                        records.append(record)
                        ahead += len(record)
                    self.check(sample, changed, records)

    def test_records_left_out_twice_and_exchanged(self):
        sample = counting()
        journal = led(sample, (4,), 1).journal()
        records = naive_recovered(sample, journal)[0]
        self.assertEqual(len(records), 6)
        for at in range(6):
            self.check(sample, "".join(records[:at] + records[at + 1:]))
            self.check(sample, "".join(records[:at] + [records[at]] * 2 + records[at + 1:]))
            for other in range(6):
                ones = list(records)
                ones[at], ones[other] = ones[other], ones[at]
                self.check(sample, "".join(ones))
        # The first one says nothing, the others 4.
        self.check(sample, "".join(records[1:] + records[:1]), records[1:])
        self.check(sample, records[0] + "".join(records), records[:1] + records)
        self.check(sample, records[1] + records[0], records[1:2])

    def test_what_was_said_must_go_on(self):
        one = program((), ("back", 0))
        state = begun(one, (5,))

        def text(*said):
            return image((state[0], state[1], said))
        for saids, many in ((((), (1,), (1, 2)), 3), (((1,), (1,), (2,)), 2), (((1, 2), (1,)), 1), (((1, 2), (1, 2, 3), ()), 2),
                            (((1,), (2, 1)), 1), (((), ()), 2), (((1, 2), (2, 2)), 1), (((3,), (3, 3), (3, 3)), 3)):
            texts = [text(*said) for said in saids]
            self.check(one, "".join(texts), texts[:many])

    def test_states_that_are_not_taken_over(self):
        one = hold()
        right = image(behind(one, (5,), 2))
        wrong = image((((0, (1,), (5, 7)),), (), ()))
        self.check(one, wrong + right, [])
        self.check(one, right + wrong + right, [right])
        self.check(nested(), led(one, (5,), 1).journal())
        self.check(counting(), led(one, (5,), 1).journal())

    def test_points_without_integers(self):
        one = hold()
        right = image(behind(one, (5,), 2))
        for text in ("said\nframe 0 - 5\n", right[:right.rfind("end ")].replace("frame 1 0", "frame 1 -")):
            wrong = text + naive_end(text)
            self.assertIn(" - ", wrong)
            self.check(one, wrong, [])
            self.check(one, wrong + right, [])
            self.check(one, right + wrong + right, [right])
            self.check(one, right * 2 + wrong, [right] * 2)

    def test_other_programs(self):
        journal = led(hold(), (5,), 1).journal()
        other = Program((), (hold().bodies[0], (1, hold().bodies[1][1], ("num",), ((("num", 3),), ("back", 3)))))
        self.assertEqual(journal.count("end"), 3)
        # The last record has a frame of body 1, at a point of the other one, too.
        keeper = self.check(other, journal, naive_recovered(hold(), journal)[0])
        self.assertEqual(keeper.go(100, upwards), (3,))

    def test_images_from_elsewhere(self):
        over = behind(hold(), (5,), 6)
        keeper = self.check(hold(), image(over), [image(over)])
        self.assertEqual(keeper.go(100, None), ())
        self.assertIs(keeper.is_over(), True)
        self.check(hold(), "said\nend 1074\n" * 3, ["said\nend 1074\n"] * 3)


class LedOnTest(RecoveredCase):
    def test_steps_and_makings_are_counted_anew(self):
        sample = using(2)
        journal = led(sample, (5,), 2, 5).journal()
        self.assertEqual(journal.count("end"), 2)
        keeper = self.check(sample, journal)
        self.assertEqual(keeper.state(), behind(sample, (5,), 3))
        for each, records in ((1, 5), (2, 3), (3, 3), (4, 2), (1000, 2)):
            # Three makings are left: the second, the third and the fourth one of the run.
            keeper, many = recovered(sample, journal, each)
            self.assertEqual(keeper.go(100, upwards), (5,))
            self.assertEqual(keeper.steps(), 10)
            self.assertEqual(keeper.journal().count("end"), records)
            self.assertEqual(keeper.journal()[:many], journal)

    def test_says_in_all_what_plain_says(self):
        for sample, inputs in ((hold, (5,)), (counting, (6,)), (nested, (5,)), (using, (5,)), (using, (0,)), (lists, (5,))):
            one = sample()
            for each in (1, 2, 3):
                journal = led(one, inputs, each).journal()
                records = naive_recovered(one, journal)[0]
                for at in range(1, len(records) + 1):
                    for other in (1, 2, 1000):
                        keeper, _ = recovered(one, "".join(records[:at]) + "said", other)
                        ahead = keeper.state()[2]
                        self.assertEqual((ahead + keeper.go(1000, downwards), True), plain(one, inputs, 1000))
                        again, many = recovered(one, keeper.journal(), 1)
                        self.assertEqual(many, len(keeper.journal()))
                        again.go(1000, upwards)
                        self.assertEqual(again.state()[2], keeper.state()[2])

    def test_copies(self):
        journal = led(nested(), (5,), 1).journal()
        keeper, _ = recovered(nested(), journal[:-1], 1)
        other = keeper.copy()
        keeper.go(100, upwards)
        self.assertEqual(other.steps(), 0)
        self.assertEqual(other.go(100, upwards), (10,))
        self.assertEqual(other.journal(), keeper.journal())


class ErrorsTest(unittest.TestCase):
    def test_in_their_order(self):
        journal = Keeper(hold(), (5,), 1).journal()
        for thing in odd_things() + [Desk(), Keeper(hold(), (5,), 1)]:
            if type(thing) is not str:
                for each in (1, 0):
                    with self.assertRaises(NoText):
                        recovered(hold(), thing, each)
            else:
                with self.assertRaises(NoRecord):
                    recovered(hold(), thing, 1)
        for each in odd_things() + [0, -1, 1001]:
            for text in (journal, "", "x"):
                with self.assertRaises(NoNumber):
                    recovered(hold(), text, each)
        for text in ("", "\n", "x", journal[:-1], journal[1:], "\n" + journal, "end 0\n", "said\n" * 4000, "\n" * 20000):
            with self.assertRaises(NoRecord):
                recovered(hold(), text, 1)
        self.assertEqual(recovered(hold(), journal, 1000)[1], len(journal))

    def test_the_program_must_take_the_first_one_over(self):
        with self.assertRaises(NoRecord):
            recovered(program((("num", 1),), ("back", 0), places=()), Keeper(hold(), (5,), 1).journal(), 1)


if __name__ == "__main__":
    unittest.main()
