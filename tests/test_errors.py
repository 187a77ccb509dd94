import copy
import unittest

from barewords import errors
from barewords.errors import WordsError
from samples import odd_things

FIELDS = {
    "NoKind": (), "NoKinds": (), "BadProgram": ("part",), "NoBody": (), "NoPoint": (), "NoInputs": (),
    "NoNumber": (), "IsOver": (), "NoPlace": (), "BadPlacer": ("number",), "TooMany": ("most",), "NoLot": (),
    "NoSpot": (), "NoSource": (), "NoWords": (), "NoKinding": (), "NoOver": (), "BadImage": ("line",),
    "NoText": (), "NoRecord": (), "BadText": ("line",), "NothingDone": (), "NoForm": (), "NoName": ("name",),
    "NothingChosen": (),
}


def classes():
    return {name: getattr(errors, name) for name in FIELDS}


class ErrorsTest(unittest.TestCase):
    def test_all_classes_are_there_and_no_others(self):
        there = {name for name, value in vars(errors).items() if isinstance(value, type)}
        self.assertEqual(there, {*FIELDS, "WordsError"})

    def test_bases(self):
        self.assertEqual(WordsError.__bases__, (ValueError,))
        for name, error in classes().items():
            with self.subTest(name):
                self.assertEqual(error.__bases__, (WordsError,))

    def test_none_is_one_of_the_others(self):
        for name, error in classes().items():
            made = error(*FIELDS[name])
            self.assertIsInstance(made, ValueError)
            for other_name, other in classes().items():
                self.assertEqual(isinstance(made, other), name == other_name)

    def test_each_is_defined_in_its_file(self):
        for error in (*classes().values(), WordsError):
            self.assertEqual(error.__module__, "barewords.errors")

    def test_fields_keep_what_was_passed(self):
        for name, fields in FIELDS.items():
            for thing in [*odd_things(), 7, ("step", 0, (1, 0, 2))]:
                made = classes()[name](*[thing for _ in fields])
                for field in fields:
                    self.assertIs(getattr(made, field), thing)

    def test_made_with_just_the_fields(self):
        for name, fields in FIELDS.items():
            with self.subTest(name):
                with self.assertRaises(TypeError):
                    classes()[name](*range(len(fields) + 1))
                if fields:
                    with self.assertRaises(TypeError):
                        classes()[name]()

    def test_copies(self):
        for name, fields in FIELDS.items():
            made = classes()[name](*[("step", 0, (1,)) for _ in fields])
            for other in (copy.copy(made), copy.deepcopy(made)):
                self.assertIs(other.__class__, classes()[name])
                self.assertEqual(vars(other), vars(made))

    def test_raised_and_caught(self):
        for name, fields in FIELDS.items():
            error = classes()[name]
            with self.assertRaises(error):
                raise error(*fields)


if __name__ == "__main__":
    unittest.main()
