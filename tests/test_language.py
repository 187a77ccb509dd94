"""The package keeps to the subset of Python that it is written in: what of it a test can see."""

import ast
import pathlib
import unittest

FOLDER = pathlib.Path(__file__).resolve().parent.parent / "barewords"
BUILTINS = {
    "len", "range", "enumerate", "zip", "min", "max", "sum", "abs", "sorted", "reversed", "int", "str", "bool", "list",
    "tuple", "dict", "set", "isinstance", "ord", "repr", "any", "all", "divmod", "ValueError", "KeyError",
}
METHODS = {
    "append", "clear", "copy", "count", "endswith", "extend", "find", "get", "index", "insert", "isalnum", "isalpha",
    "isdigit", "items", "join", "keys", "partition", "pop", "remove", "replace", "reverse", "rfind", "setdefault",
    "split", "splitlines", "startswith", "strip", "update", "values", "add", "discard", "zfill", "isascii",
}
SPECIAL = {"__init__", "__eq__"}
LIBRARY = {"itertools": {"combinations"}}
UNUSED = {"register", "mro", "elements", "open", "input", "law", "version_info", "with_traceback", "add_note"}
NOT_IN_STRINGS = {"type", "typing", "enum", "Enum", "Flag", "Generic", "Protocol", "ABC", "namedtuple", "NamedTuple"}
STATEMENTS = (
    ast.Assign, ast.AugAssign, ast.If, ast.While, ast.For, ast.Return, ast.Break, ast.Continue, ast.Pass, ast.Raise,
    ast.Try, ast.Delete, ast.Expr, ast.FunctionDef)
AT_TOP = (ast.Expr, ast.ImportFrom, ast.FunctionDef, ast.ClassDef, ast.Assign)


def files():
    return sorted(path for path in FOLDER.rglob("*") if "__pycache__" not in path.parts)


def trees():
    return [(path.name, ast.parse(path.read_text(encoding="ascii"))) for path in files()]


def nodes(kind):
    return [(name, node) for name, tree in trees() for node in ast.walk(tree) if isinstance(node, kind)]


class FilesTest(unittest.TestCase):
    def test_files(self):
        for path in files():
            self.assertTrue(path.suffix == ".py" and path.stem.replace("_", "a").isalnum() and path.name.islower())

    def test_sizes_and_signs(self):
        for path in files():
            text = path.read_text(encoding="ascii")
            self.assertTrue(all(sign == "\n" or " " <= sign <= "~" for sign in text), path.name)
            lines = text.split("\n")
            self.assertLessEqual(len(lines), 400, path.name)
            self.assertLessEqual(max(map(len, lines)), 120, path.name)

    def test_functions_have_at_most_40_lines(self):
        for name, node in nodes(ast.FunctionDef):
            self.assertLessEqual(node.end_lineno - node.lineno + 1, 40, (name, node.name))
            self.assertEqual(node.decorator_list, [])

    def test_imports_are_of_the_package_and_have_no_cycle(self):
        asked = {}
        for name, tree in trees():
            for node in tree.body:
                if isinstance(node, ast.ImportFrom) and node.module in LIBRARY:
                    self.assertTrue(all(alias.asname is None and alias.name in LIBRARY[node.module] for alias in node.names))
                elif isinstance(node, ast.ImportFrom):
                    self.assertTrue(node.module.startswith("barewords."), name)
                    self.assertEqual(node.level, 0)
                    self.assertTrue(all(alias.asname is None and alias.name != "*" for alias in node.names))
                    asked.setdefault(name[:-3], set()).add(node.module.split(".")[1])
        self.assertEqual(nodes(ast.Import), [])
        done = set()
        for _ in files():
            done |= {path.stem for path in files() if asked.get(path.stem, set()) <= done}
        self.assertEqual(done, {path.stem for path in files()})

    def test_imported_names_are_defined_where_they_come_from_and_used(self):
        defined = {name[:-3]: tree for name, tree in trees()}
        for name, node in nodes(ast.ImportFrom):
            there = set(LIBRARY.get(node.module, ()))
            for one in [] if there else defined[node.module.split(".")[1]].body:
                there |= {one.name} if isinstance(one, (ast.FunctionDef, ast.ClassDef)) else {
                    target.id for target in getattr(one, "targets", [])}
            used = {one.id for one in ast.walk(defined[name[:-3]]) if isinstance(one, ast.Name)}
            for alias in node.names:
                self.assertIn(alias.name, there)
                self.assertIn(alias.name, used, name)


class StatementsTest(unittest.TestCase):
    def test_at_module_level(self):
        for name, tree in trees():
            bound = []
            for node in tree.body:
                self.assertIsInstance(node, AT_TOP, name)
                if isinstance(node, ast.Expr):
                    self.assertIsInstance(node.value, ast.Constant)
                if isinstance(node, ast.Assign):
                    bound.extend(target.id for target in node.targets)
                    self.assertFalse(any(isinstance(one, ast.Call) for one in ast.walk(node)), name)
                elif isinstance(node, (ast.FunctionDef, ast.ClassDef)):
                    bound.append(node.name)
                elif isinstance(node, ast.ImportFrom):
                    bound.extend(alias.name for alias in node.names)
            self.assertEqual(len(bound), len(set(bound)), name)
            parameters = {one.arg for one in ast.walk(tree) if isinstance(one, ast.arg)}
            local = {one.id for one in ast.walk(tree) if isinstance(one, ast.Name) and isinstance(one.ctx, ast.Store)}
            at_top = {target.id for node in tree.body if isinstance(node, ast.Assign) for target in node.targets}
            self.assertEqual((parameters | local - at_top) & set(bound), set(), name)

    def test_in_functions(self):
        for name, node in nodes(ast.FunctionDef):
            for one in ast.walk(node):
                if isinstance(one, ast.stmt):
                    self.assertIsInstance(one, STATEMENTS, (name, node.name))

    def test_tables_are_not_passed_on(self):
        for name, tree in trees():
            tables = {node.targets[0].id for node in tree.body if isinstance(node, ast.Assign)
                      and isinstance(node.value, (ast.Dict, ast.List))}
            for node in ast.walk(tree):
                if isinstance(node, ast.Call):
                    self.assertFalse([one.id for one in node.args if isinstance(one, ast.Name) and one.id in tables])
                elif isinstance(node, (ast.Return, ast.Assign)):
                    self.assertFalse(isinstance(node.value, ast.Name) and node.value.id in tables, name)

    def test_errors_are_made_on_the_spot(self):
        for name, node in nodes(ast.Raise):
            self.assertTrue(node.exc is None or isinstance(node.exc, ast.Call), name)


class ExpressionsTest(unittest.TestCase):
    def test_no_generator_expressions(self):
        self.assertEqual(nodes((ast.GeneratorExp, ast.Yield, ast.YieldFrom, ast.Await, ast.Global)), [])

    def test_sets_are_sorted_measured_or_asked(self):
        allowed = set()
        for _, node in nodes(ast.Call):
            if isinstance(node.func, ast.Name) and node.func.id in ("sorted", "len"):
                allowed |= {ast.dump(one) for one in node.args}
        for _, node in nodes(ast.Compare):
            allowed |= {ast.dump(one) for one in node.comparators}
        for name, node in nodes((ast.Set, ast.SetComp)):
            self.assertIn(ast.dump(node), allowed, name)

    def test_numbers_and_strings(self):
        for name, node in nodes(ast.Constant):
            self.assertNotIsInstance(node.value, (float, complex))
            if isinstance(node.value, str):
                self.assertNotIn("%", node.value)
                self.assertNotIn("__", node.value)
        for name, node in nodes(ast.BinOp):
            self.assertNotIsInstance(node.op, ast.Div)

    def test_words_that_are_not_used(self):
        for name, tree in trees():
            docs = {id(one.body[0].value) for one in ast.walk(tree)
                    if isinstance(one, (ast.Module, ast.ClassDef, ast.FunctionDef)) and isinstance(one.body[0], ast.Expr)}
            for node in ast.walk(tree):
                if isinstance(node, ast.Constant) and isinstance(node.value, str) and id(node) not in docs:
                    self.assertNotIn(node.value, NOT_IN_STRINGS)
                for field in ("id", "arg", "attr", "name"):
                    word = getattr(node, field, None)
                    if isinstance(word, str):
                        self.assertNotIn(word, UNUSED | NOT_IN_STRINGS, name)
                        self.assertTrue(not word.startswith("__") or word in SPECIAL, (name, word))

    def test_calls(self):
        own = {node.name for _, node in nodes((ast.FunctionDef, ast.ClassDef))}
        for name, tree in trees():
            local = {one.id for one in ast.walk(tree) if isinstance(one, ast.Name) and isinstance(one.ctx, ast.Store)}
            local |= {one.arg for one in ast.walk(tree) if isinstance(one, ast.arg)}
            self.assertEqual(local & set(dir(__builtins__) if not isinstance(__builtins__, dict) else __builtins__), set())
            for node in ast.walk(tree):
                if isinstance(node, ast.Call) and isinstance(node.func, ast.Name):
                    self.assertIn(node.func.id, own | BUILTINS | local | LIBRARY["itertools"], name)
                elif isinstance(node, ast.Call) and isinstance(node.func, ast.Attribute):
                    self.assertIn(node.func.attr, own | METHODS | SPECIAL, name)
                elif isinstance(node, ast.Call):
                    self.fail(f"{name} calls what is no name")

    def test_zips_and_their_kin_are_iterated_at_once(self):
        at_once = set()
        for _, node in nodes((ast.For, ast.comprehension)):
            at_once.add(ast.dump(node.iter))
        for _, node in nodes(ast.Call):
            if isinstance(node.func, ast.Name) and node.func.id in (
                    "list", "tuple", "dict", "sorted", "sum", "any", "all", "enumerate", "zip", "min", "max"):
                at_once |= {ast.dump(one) for one in node.args}
        for name, node in nodes(ast.Call):
            if isinstance(node.func, ast.Name) and node.func.id in (
                    "zip", "enumerate", "reversed", "range", "combinations"):
                self.assertTrue(ast.dump(node) in at_once, (name, node.lineno))

    def test_attributes(self):
        barred = {"items", "keys", "values", "pop", "update", "append", "clear", "extend", "insert", "remove", "reverse",
                  "setdefault", "sort", "args", "encode", "decode", "hex", "fromhex", "format"}
        assigned, methods = {}, {}
        for name, node in nodes(ast.ClassDef):
            methods[node.name] = {one.name for one in node.body if isinstance(one, ast.FunctionDef)}
            assigned[node.name] = {
                one.attr for one in ast.walk(node) if isinstance(one, ast.Attribute) and isinstance(one.ctx, ast.Store)
                and isinstance(one.value, ast.Name) and one.value.id == "self"}
            self.assertEqual(assigned[node.name] & (methods[node.name] | barred), set(), node.name)
        known = set().union(*assigned.values())
        own = set().union(*methods.values())
        for name, node in nodes(ast.Attribute):
            if isinstance(node.ctx, ast.Store):
                self.assertIsInstance(node.value, ast.Name, (name, node.lineno))
                self.assertIn(node.attr, known)
            else:
                self.assertIn(node.attr, known | own | METHODS, (name, node.lineno))

    def test_what_is_kept_by_a_method_is_there_when_the_object_is_made(self):
        for name, node in nodes(ast.ClassDef):
            methods = {one.name: one for one in node.body if isinstance(one, ast.FunctionDef)}
            if "__init__" not in methods:
                continue
            called = ["__init__"]
            for one in called:
                called.extend(sub.func.attr for sub in ast.walk(methods[one]) if isinstance(sub, ast.Call) and isinstance(
                    sub.func, ast.Attribute) and isinstance(sub.func.value, ast.Name) and sub.func.value.id == "self"
                    and sub.func.attr in methods and sub.func.attr not in called)

            def kept(those):
                return {one.attr for method in those for one in ast.walk(methods[method]) if isinstance(
                    one, ast.Attribute) and isinstance(one.ctx, ast.Store) and isinstance(one.value, ast.Name)
                    and one.value.id == "self"}
            self.assertEqual(kept(methods) - kept(called), set(), node.name)

    def test_is_asks_for_none_alone(self):
        for name, node in nodes(ast.Compare):
            for sign, other in zip(node.ops, node.comparators):
                if isinstance(sign, (ast.Is, ast.IsNot)):
                    self.assertTrue(isinstance(other, ast.Constant) and other.value in (None, True, False), name)


if __name__ == "__main__":
    unittest.main()
