"""What the document promises over the whole program: errors and their order, any objects, what is new, what is equal."""

import ast
import importlib
import pathlib
import re
import sys
import unittest

from barewords import errors
from barewords.collecting import collected, is_like, ran_collecting
from barewords.desk import Desk
from barewords.errors import (
    BadImage, BadText, IsOver, NoBody, NoForm, NoInputs, NoKind, NoKinding, NoKinds, NoLot, NoNumber, NoPlace, NoPoint,
    NoSource, NoSpot, NoText, NoWords, WordsError)
from barewords.images import image, loaded, read_image
from barewords.keeper import Keeper, recovered
from barewords.kindings import is_kinding
from barewords.kinds import filled, is_kind, letters_in, matched
from barewords.machine import begun, is_making, next_state, ran
from barewords.over import fault_of, retold, stands, takes_over
from barewords.plain import plain
from barewords.programs import Program, kinds_at, points, row_at
from barewords.reading import read_kind, read_program
from barewords.sources import is_teller, losses, sources, tellers, told_by
from barewords.strangers import by_links, by_looks, exchanged, judged, ran_keeping
from barewords.telling import blank, general, met, open_spots, told
from barewords.texts import kind_text, program_text
from samples import A, NUM, boxed, counting, hold, odd_things
from states import behind, upwards

STATE = behind(hold(), (5,), 2)
ROOT = pathlib.Path(__file__).resolve().parent.parent

# The interface, as the document lists it.
INTERFACE = {
    "kinds": {"is_kind": 1, "filled": 2, "letters_in": 1, "matched": 2},
    "programs": {"Program": 2, "points": 2, "row_at": 3, "kinds_at": 3},
    "plain": {"plain": 3},
    "machine": {"begun": 2, "next_state": 3, "ran": 4, "is_making": 2},
    "telling": {"met": 2, "told": 2, "open_spots": 2, "blank": 2, "general": 2},
    "kindings": {"is_kinding": 3},
    "sources": {"sources": 2, "tellers": 3, "losses": 3, "told_by": 3, "is_teller": 4},
    "collecting": {"collected": 3, "ran_collecting": 5, "is_like": 3},
    "strangers": {"exchanged": 3, "judged": 5, "by_looks": 1, "by_links": 3, "ran_keeping": 4},
    "over": {"stands": 2, "takes_over": 2, "fault_of": 2, "retold": 3},
    "images": {"image": 1, "read_image": 2, "loaded": 3},
    "keeper": {"Keeper": 3, "recovered": 3},
    "texts": {"program_text": 1, "kind_text": 1},
    "reading": {"read_program": 1, "read_kind": 1},
    "desk": {"Desk": 0},
}
METHODS = {
    ("programs", "Program"): {"__eq__": 1},
    ("keeper", "Keeper"): {"go": 2, "state": 0, "is_over": 0, "steps": 0, "journal": 0, "copy": 0},
    ("desk", "Desk"): {"tell": 1, "undoable": 0},
}


def package_things():
    """Objects of all classes of the package that others may be handed."""
    found = [hold(), Keeper(hold(), (5,), 1), Desk()]
    for name in vars(errors):
        error = getattr(errors, name)
        if isinstance(error, type) and issubclass(error, WordsError) and error is not WordsError:
            fields = {"BadProgram": 1, "BadPlacer": 1, "TooMany": 1, "BadImage": 1, "BadText": 1, "NoName": 1}.get(name, 0)
            found.append(error(*range(fields)))
    for file in sorted((ROOT / "barewords").glob("*.py")):
        module = importlib.import_module("barewords." + file.stem)
        found.extend(thing for thing in vars(module).values() if isinstance(thing, type) and thing.__module__ == module.__name__)
    return found


def all_things():
    many = odd_things() + package_things()
    nested = []
    for thing in package_things():
        for _ in range(30):
            thing = (thing, [thing])[:1] if len(nested) % 2 else [thing]
        nested.append(thing)
    words = "x" * 19999, "\n" * 20000, "\t ~" * 6000, "said\n", "num ", "end 0\n", "names\n", " names"
    return many + nested + [*words, (("pile", 0, 0),) * 5000, {("pile", at, 0): at for at in range(5000)}, 10 ** 40 - 1, -10 ** 40 + 1]


# What raises for a thing, and what error; things that may be right there are told by the test of each.
RAISING = (
    (lambda thing: filled(thing, (NUM,)), NoKind), (lambda thing: filled(A, thing), NoKinds), (letters_in, NoKind),
    (lambda thing: matched(thing, NUM), NoKind), (lambda thing: matched(A, thing), NoKind),
    (lambda thing: points(hold(), thing), NoBody), (lambda thing: row_at(hold(), thing, thing), NoBody),
    (lambda thing: kinds_at(hold(), thing, None), NoBody), (lambda thing: row_at(hold(), 0, thing), NoPoint),
    (lambda thing: kinds_at(hold(), 1, thing), NoPoint), (lambda thing: plain(hold(), thing, thing), NoInputs),
    (lambda thing: plain(hold(), (5,), thing), NoNumber), (lambda thing: begun(hold(), thing), NoInputs),
    (lambda thing: next_state(hold(), begun(hold(), (5,)), thing), NoPlace),
    (lambda thing: ran(hold(), STATE, upwards, thing), NoNumber), (lambda thing: told_by(hold(), STATE, thing), NoLot),
    (lambda thing: tellers(hold(), STATE, thing), NoSpot), (lambda thing: is_teller(hold(), STATE, thing, thing), NoSpot),
    (lambda thing: losses(hold(), STATE, thing), NoSource), (lambda thing: exchanged(hold(), STATE, thing), NoWords),
    (lambda thing: exchanged(hold(), STATE, {("pile", 1, 0): thing}), NoWords),
    (lambda thing: ran_collecting(hold(), thing, upwards, thing, thing), NoInputs),
    (lambda thing: ran_collecting(hold(), (5,), upwards, thing, thing), NoNumber),
    (lambda thing: ran_collecting(hold(), (5,), upwards, 5, thing), NoNumber),
    (lambda thing: judged(None, hold(), thing, upwards, thing), NoInputs),
    (lambda thing: judged(None, hold(), (5,), upwards, thing), NoNumber),
    (lambda thing: ran_keeping(hold(), thing, upwards, thing), NoInputs),
    (lambda thing: ran_keeping(hold(), (5,), upwards, thing), NoNumber),
    (lambda thing: by_links(hold(), STATE, thing), NoKinding), (lambda thing: read_image(hold(), thing), BadImage),
    (lambda thing: loaded(hold(), thing, upwards), BadImage), (lambda thing: Keeper(hold(), thing, thing), NoInputs),
    (lambda thing: Keeper(hold(), (5,), thing), NoNumber), (lambda thing: Keeper(hold(), (5,), 1).go(thing, upwards), NoNumber),
    (lambda thing: recovered(hold(), thing, thing), (NoText, NoNumber)),
    (lambda thing: recovered(hold(), "", thing), NoNumber), (kind_text, NoKind), (read_program, BadText), (read_kind, BadText),
    (lambda thing: Desk().tell(thing), NoForm),
)


class AnyObjectTest(unittest.TestCase):
    def test_errors(self):
        right = {}
        for number, (call, error) in enumerate(RAISING):
            for thing in all_things():
                try:
                    call(thing)
                except error:
                    continue
                except WordsError:
                    # It is right where this error is named, and wrong for what is named behind it.
                    pass
                right.setdefault(number, []).append(thing)
        # Some are right somewhere: integers, a dict without anything in it, the input 0.
        for number, things in right.items():
            for thing in things:
                self.assertIn(type(thing), (int, str, dict, tuple), (number, thing))
                self.assertLessEqual(len(repr(thing)), 50, number)

    def test_judging(self):
        right = set()
        for thing in all_things():
            for number, call in enumerate((is_kind, lambda thing: is_kinding(hold(), STATE, thing),
                                           lambda thing: is_like(hold(), STATE, thing),
                                           lambda thing: is_teller(hold(), STATE, ("heap", 100, 2), thing))):
                answer = call(thing)
                self.assertIs(type(answer), bool)
                if answer:
                    right.add((number, repr(thing)))
        self.assertEqual(right, {(3, "(0,)")})

    def test_collectors_and_placers(self):
        for thing in all_things():
            self.assertEqual(judged(lambda one, state: thing, hold(), (5,), upwards, 9), ("unlike", 0))
            if type(thing) is not int:
                with self.assertRaises(errors.BadPlacer):
                    collected(hold(), STATE, lambda places: thing)

    def test_programs(self):
        for thing in all_things():
            for book, bodies in ((thing, hold().bodies), ((), thing), (thing, thing), ((thing,), hold().bodies), ((), (thing,))):
                try:
                    self.assertEqual(Program(book, bodies).book, ())
                except errors.BadProgram as error:
                    self.assertIs(type(error.part), tuple)

    def test_deep_things_where_all_is_right_but_one(self):
        for kind in (boxed(NUM, 59), boxed(A, 3000)):
            self.assertEqual(letters_in(kind), () if letters_in(kind) == () else (0,))
            self.assertIs(is_kinding(hold(), STATE, (((), (kind,)), {})), False)
            self.assertEqual(matched(kind, kind) if not letters_in(kind) else {}, {})
            self.assertEqual(len(kind_text(kind)), 62 if kind == boxed(NUM, 59) else 3002)

    def test_no_recursion_error(self):
        limit = sys.getrecursionlimit()
        sys.setrecursionlimit(260)
        try:
            self.assertIs(is_kinding(hold(), STATE, (((), (boxed(NUM, 5000),)), {})), False)
            self.assertEqual(read_kind("!" * 19 + "num"), boxed(NUM, 19))
            self.assertRaises(BadText, read_kind, "[" * 20000)
            self.assertRaises(BadText, read_program, "new 0 : num : num\n" + "if 0\n" * 3900)
            self.assertRaises(errors.BadProgram, read_program, "new 0 : num : num\n" + "if 0\n" * 1600 + "back 0\n" * 1601)
            sample = counting()
            state = ran(sample, begun(sample, (900,)), upwards, 4000)
            self.assertGreater(len(state[0]), 500)
            self.assertEqual(len(collected(sample, state, upwards)[1]), len(met(sample, state)))
            self.assertEqual(read_image(sample, image(state)), state)
            self.assertIs(is_like(sample, state, state), True)
            self.assertEqual(by_looks(state), by_links(sample, state, blank(sample, state)))
            keeper = Keeper(sample, (300,), 100)
            keeper.go(100000, upwards)
            self.assertEqual(recovered(sample, keeper.journal(), 1)[1], len(keeper.journal()))
        finally:
            sys.setrecursionlimit(limit)


class OrderTest(unittest.TestCase):
    def test_of_two_wrong_arguments_the_first_is_named(self):
        with self.assertRaises(NoKind):
            filled(None, None)
        with self.assertRaises(NoBody):
            row_at(hold(), 7, None)
        with self.assertRaises(IsOver):
            next_state(hold(), ((), (), (1,)), None)
        with self.assertRaises(NoSpot):
            is_teller(hold(), STATE, None, None)
        with self.assertRaises(NoText):
            recovered(hold(), None, None)

    def test_errors_have_no_more_than_their_fields(self):
        for call, error in RAISING:
            with self.assertRaises(error) as caught:
                call(None)
            self.assertLessEqual(len(vars(caught.exception)), 1)
            self.assertEqual(type(caught.exception).__bases__, (WordsError,))


class NewTest(unittest.TestCase):
    def test_lists_and_dicts_are_new(self):
        one = hold()
        kinding = blank(one, STATE)
        calls = (
            lambda: points(one, 0), lambda: told(one, STATE), lambda: open_spots(one, STATE), lambda: blank(one, STATE)[1],
            lambda: general(one, STATE)[1], lambda: sources(one, STATE), lambda: told_by(one, STATE, ()),
            lambda: tellers(one, STATE, ("heap", 100, 2)), lambda: losses(one, STATE, ("cell", 100)), lambda: matched(A, NUM))
        for call in calls:
            first, second = call(), call()
            self.assertEqual(first, second)
            self.assertIsNot(first, second)
            self.assertIn(type(first), (list, dict))
            first.clear()
            self.assertEqual(call(), second)
        self.assertEqual(blank(one, STATE), kinding)

    def test_arguments_stay_as_they_are(self):
        one = hold()
        kinding, words = blank(one, STATE), {("pile", 1, 0): 9}
        again, text = (kinding[0], dict(kinding[1])), image(STATE)
        is_kinding(one, STATE, kinding)
        by_links(one, STATE, kinding)
        exchanged(one, STATE, words)
        collected(one, STATE, upwards)
        takes_over(counting(), STATE)
        retold(one, hold(), STATE)
        judged(lambda program, state: state, one, (5,), upwards, 100)
        self.assertEqual((kinding, words), (again, {("pile", 1, 0): 9}))
        self.assertEqual(image(STATE), text)
        self.assertEqual(one, hold())
        self.assertEqual(program_text(one), program_text(hold()))

    def test_equal_calls_give_equal_answers(self):
        for _ in range(2):
            self.assertEqual(fault_of(counting(), STATE), ("frame", 1))
            self.assertIs(stands(hold(), STATE), True)
            self.assertIs(is_making(hold(), STATE), True)


class EqualTest(unittest.TestCase):
    def test_objects_are_equal_to_nothing_of_another_kind(self):
        things = package_things()[:3]
        for one in things:
            for other in odd_things() + package_things():
                if one is other or isinstance(one, Program) and isinstance(other, Program):
                    continue
                self.assertIs(one == other, False)
                self.assertIs(other == one, False)
                self.assertIs(one != other, True)
        self.assertIs(hold() == hold(), True)
        self.assertIs(hold() != hold(), False)
        self.assertIs(hold() == counting(), False)


class InterfaceTest(unittest.TestCase):
    def test_each_name_is_defined_in_its_file_with_its_arguments(self):
        for stem, names in INTERFACE.items():
            tree = ast.parse((ROOT / "barewords" / f"{stem}.py").read_text())
            defined = {node.name: node for node in tree.body if isinstance(node, (ast.FunctionDef, ast.ClassDef))}
            for name, many in names.items():
                node = defined[name]
                if isinstance(node, ast.ClassDef):
                    methods = {one.name: one for one in node.body if isinstance(one, ast.FunctionDef)}
                    for method, more in METHODS[stem, name].items():
                        self.assertEqual(len(methods[method].args.args), more + 1)
                    node, many = methods["__init__"], many + 1
                self.assertEqual(len(node.args.args), many, name)


class ReadmeTest(unittest.TestCase):
    def test_what_it_shows(self):
        """Each line of the example comes to what is told behind its `#`."""
        text = (ROOT / "README.md").read_text()
        code = re.search(r"```python\n(.*?)```", text, re.DOTALL)[1]
        lines = code.split("\n")
        names, shown = {}, 0
        for node in ast.parse(code).body:
            comment = lines[node.end_lineno - 1][node.end_col_offset:].partition("# ")[2]
            if isinstance(node, ast.Try):
                node = ast.Module([node], [])
                exec(compile(node, "README.md", "exec"), names)
                self.assertEqual(names["part"], ("step", 0, (0,)))
            elif isinstance(node, ast.Expr):
                answer = eval(compile(ast.Expression(node.value), "README.md", "eval"), names)
                self.assertEqual(answer, eval(comment, names))
                shown += 1
            else:
                exec(compile(ast.Module([node], []), "README.md", "exec"), names)
                if comment:
                    self.assertEqual(names[node.targets[0].id], eval(comment, names))
                    shown += 1
        self.assertGreater(shown, 45)

    def test_it_names_all_modules_and_what_they_have(self):
        text = (ROOT / "README.md").read_text()
        for file in (ROOT / "barewords").glob("*.py"):
            if file.stem != "__init__":
                self.assertIn(f"`barewords.{file.stem}`", text)
        for names in INTERFACE.values():
            for name in names:
                self.assertIn(f"`{name}`", text)


if __name__ == "__main__":
    unittest.main()
