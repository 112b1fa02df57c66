"""Rules of LANGUAGE.md that can be seen without much knowledge of the program; the rule stands in each test's name."""

import ast
import builtins
import functools
import pathlib
import re
import unittest

FOLDER = pathlib.Path(__file__).resolve().parent.parent / "surelydone"

ALLOWED_BUILTINS = set("""
    len range enumerate zip min max sum abs sorted reversed int str bool list tuple dict set isinstance ord repr
    any all divmod iter next property classmethod staticmethod super Exception ValueError TypeError KeyError
    IndexError LookupError ZeroDivisionError ArithmeticError OverflowError RuntimeError NotImplementedError
    AttributeError StopIteration NotImplemented
""".split())

SIGNS = """
    __add__ __radd__ __iadd__ __sub__ __rsub__ __isub__ __and__ __rand__ __iand__ __or__ __ror__ __ior__ __contains__
    __getitem__
""".split()

BUILTIN_METHODS = set("""
    append clear copy count endswith extend find get index insert items join keys pop remove replace reverse
    setdefault split startswith strip update values
""".split())

CHANGING_METHODS = "append clear extend insert pop remove reverse setdefault update sort add discard".split()

ALLOWED_METHODS = set("""
    __init__ __eq__ __repr__ __str__ __len__ __enter__ __exit__ __call__ __iter__ __lt__ __le__ __gt__ __ge__ __ne__
    __add__ __radd__ __iadd__ __sub__ __rsub__ __isub__ __and__ __rand__ __iand__ __or__ __ror__ __ior__
    __bool__ __contains__ __getitem__ __setitem__
""".split())

BARRED_WORDS = """
    type typing typing_extensions enum Enum IntEnum StrEnum Flag IntFlag Generic Protocol ABC ABCMeta namedtuple
    NamedTuple TypedDict TYPE_CHECKING abstractmethod
""".split()

INTERFACE = {
    "errors": """DoneError BadState BadSteps BadHands BadDiligent BadWords BadStates BadMove BadRun TooMany
                 NothingDone""",
    "hands": "Hand Hand.__init__ Hand.ring Hand.__eq__",
    "systems": """System System.__init__ System.__eq__ System.__add__ System.__radd__ System.moves System.behind
                  System.able System.with_diligent System.started_at standings""",
    "deeds": """Deeds Deeds.__init__ Deeds.__or__ Deeds.__ror__ Deeds.__ior__ Deeds.__and__ Deeds.__rand__
                Deeds.__iand__ Deeds.__sub__ Deeds.__rsub__ Deeds.__isub__ Deeds.__eq__ Deeds.__contains__
                Deeds.__len__ Deeds.__bool__ Deeds.names Deeds.within""",
    "runs": "end_of words_of done_in passed is_fair fair_run",
    "reveals": "reveals table is_table lasso is_lasso",
    "families": "done_sets always possible revealed future together order",
    "least": "least_seen least_wanted least_diligent against",
    "alike": "alike parting",
    "desk": """Desk Desk.__init__ Desk.__getitem__ Desk.__setitem__ Desk.system Desk.reveals Desk.choose Desk.undo
               Desk.trying""",
}

# What may iterate over range, zip and the like on the spot, as a first argument.
ITERATING = "list tuple dict sorted sum any all enumerate zip min max".split()


def files():
    return sorted(path for path in FOLDER.iterdir() if path.suffix == ".py")


@functools.cache
def trees():
    return [(path, ast.parse(path.read_text(encoding="utf-8"))) for path in files()]


def nodes(kind):
    return [(path.name, node) for path, tree in trees() for node in ast.walk(tree) if isinstance(node, kind)]


def inside(kind, outer):
    """The nodes of a kind that stand somewhere in another node."""
    return [node for node in ast.walk(outer) if isinstance(node, kind)]


def own_imports(tree):
    return [node for node in tree.body if isinstance(node, ast.ImportFrom)]


def generators():
    """The names of the functions that yield."""
    return {node.name for _, node in nodes(ast.FunctionDef) if inside((ast.Yield, ast.YieldFrom), node)}


def defined_in(tree):
    """The names of the functions, the classes and the methods that a file defines, and of its values."""
    found = []
    for node in tree.body:
        if isinstance(node, (ast.FunctionDef, ast.ClassDef)):
            found.append(node.name)
        if isinstance(node, ast.ClassDef):
            found += [f"{node.name}.{part.name}" for part in node.body if isinstance(part, ast.FunctionDef)]
        if isinstance(node, ast.Assign):
            found += [target.id for target in node.targets]
    return found


class Language(unittest.TestCase):
    def test_l1_files(self):
        for path in FOLDER.iterdir():
            if path.name != "__pycache__":
                self.assertRegex(path.name, r"\A[a-z][a-z0-9_]*\.py\Z|\A__init__\.py\Z")

    def test_l2_l16_imports(self):
        told = {path.stem: defined_in(tree) for path, tree in trees()}
        self.assertEqual(nodes(ast.Import), [])
        for file, node in nodes(ast.ImportFrom):
            package, _, module = node.module.partition(".")
            self.assertEqual((package, node.level), ("surelydone", 0), file)
            for name in node.names:
                self.assertIn(name.name, told[module], file)

    def test_l4_parameters(self):
        for file, node in nodes(ast.FunctionDef):
            self.assertEqual(node.args.posonlyargs, [], file)
            for default in node.args.defaults + [part for part in node.args.kw_defaults if part]:
                self.assertIsInstance(default, (ast.Constant, ast.Tuple), file)
        for file, node in nodes(ast.Lambda):
            self.assertEqual((node.args.kwonlyargs, node.args.vararg, node.args.kwarg), ([], None, None), file)

    def test_l5_operators(self):
        for file, node in nodes(ast.FunctionDef):
            if node.name in SIGNS:
                self.assertEqual(len(node.args.args), 2, f"{file} {node.name}")
                self.assertEqual((node.args.vararg, node.args.kwarg), (None, None), f"{file} {node.name}")
                self.assertEqual((node.args.defaults, node.args.kwonlyargs), ([], []), f"{file} {node.name}")
            if node.name in SIGNS and not node.name.startswith("__i"):
                self.assertEqual(inside((ast.Assign, ast.AugAssign, ast.Delete), node)[1:], [], node.name)
                for part in inside(ast.Assign, node):
                    self.assertIsInstance(part.targets[0], ast.Name, node.name)
                for part in inside(ast.Attribute, node):
                    self.assertNotIn(part.attr, CHANGING_METHODS, node.name)

    def test_l4_l5_decorators(self):
        for file, node in nodes((ast.FunctionDef, ast.ClassDef)):
            for part in node.decorator_list:
                self.assertIsInstance(part, ast.Name, file)
                self.assertIn(part.id, ("property", "classmethod", "staticmethod"), file)

    def test_l5_items(self):
        found = {node.name: node for _, node in nodes(ast.FunctionDef) if node.name in ("__setitem__", "__iter__")}
        self.assertEqual([part.arg for part in found["__setitem__"].args.args], ["self", "at", "worth"])
        for file, node in nodes(ast.ClassDef):
            told = [part for part in node.body if isinstance(part, ast.FunctionDef)]
            names = [part.name for part in told]
            self.assertIn("__iter__" in names, (False, "__getitem__" in names), file)
            self.assertIn("__getitem__" in names, (False, "__iter__" in names), file)
        (row,) = found["__iter__"].body
        self.assertIsInstance(row, ast.Raise)
        self.assertEqual((row.exc.func.id, [type(part) for part in row.exc.args]), ("TypeError", [ast.Constant]))

    def test_l5_properties_change_nothing(self):
        for file, node in nodes(ast.FunctionDef):
            if any(part.id == "property" for part in node.decorator_list):
                self.assertEqual([part.arg for part in node.args.args], ["self"], file)
                self.assertEqual(inside((ast.Assign, ast.AugAssign, ast.Delete, ast.Call), node), [], file)

    def test_l6_finally(self):
        for file, node in nodes(ast.Try):
            for row in node.finalbody:
                self.assertIsInstance(row, ast.Assign, file)
                self.assertIsInstance(row.value, (ast.Name, ast.Attribute), file)
                self.assertIsInstance(row.targets[0], (ast.Name, ast.Attribute), file)
                self.assertEqual(len(row.targets), 1, file)

    def test_l5_l24_no_signed_assignment_of_more_than_numbers(self):
        for file, node in nodes(ast.AugAssign):
            self.assertIsInstance(node.target, ast.Name, file)
            self.assertIsInstance(node.op, ast.Add, file)
            self.assertIsInstance(node.value, ast.Constant, file)

    def test_l7_no_generator_expression(self):
        self.assertEqual(nodes(ast.GeneratorExp), [])

    def test_l7_no_float_and_no_division(self):
        self.assertEqual(nodes(ast.Div), [])
        for file, node in nodes(ast.Constant):
            self.assertNotIsInstance(node.value, (float, complex), file)

    def test_l8_builtins(self):
        for file, node in nodes(ast.Name):
            if node.id in dir(builtins):
                self.assertIn(node.id, ALLOWED_BUILTINS, file)
                self.assertIsInstance(node.ctx, ast.Load, file)

    def test_l10_sizes(self):
        for path in files():
            lines = path.read_text(encoding="utf-8").splitlines()
            self.assertLess(len(lines), 400, path.name)
            self.assertLessEqual(max(len(line) for line in lines), 120, path.name)
        for file, node in nodes(ast.FunctionDef):
            self.assertLessEqual(node.end_lineno - node.lineno + 1, 40, f"{file} {node.name}")

    def test_l12_names(self):
        for file, node in nodes((ast.Name, ast.arg, ast.Attribute)):
            name = node.id if isinstance(node, ast.Name) else node.arg if isinstance(node, ast.arg) else node.attr
            if name != "__init__":
                self.assertRegex(name, r"\A[A-Za-z]\w*\Z", file)
        for file, node in nodes((ast.FunctionDef, ast.ClassDef)):
            if node.name not in ALLOWED_METHODS:
                self.assertRegex(node.name, r"\A[A-Za-z]\w*\Z", file)

    def test_l14_characters(self):
        for path in files():
            self.assertRegex(path.read_bytes(), rb"\A[ -~\n]*\Z", path.name)

    def test_l15_no_name_of_an_import_or_a_class_inside(self):
        for path, tree in trees():
            taken = {name.name for node in own_imports(tree) for name in node.names}
            taken |= {node.name for node in tree.body if isinstance(node, ast.ClassDef)}
            stored = {node.id for node in inside(ast.Name, tree) if isinstance(node.ctx, ast.Store)}
            stored |= {node.arg for node in inside(ast.arg, tree)}
            self.assertEqual(taken & stored, set(), path.name)
            self.assertEqual(len(defined_in(tree)), len(set(defined_in(tree))), path.name)

    def test_l16_no_two_files_import_from_each_other(self):
        told = {path.stem: {node.module.partition(".")[2] for node in own_imports(tree)} for path, tree in trees()}
        while told:
            last = [file for file, needed in told.items() if not needed & set(told)]
            self.assertNotEqual(last, [], told)
            for file in last:
                del told[file]

    def test_l16_interface(self):
        for module, names in INTERFACE.items():
            found = defined_in(ast.parse((FOLDER / f"{module}.py").read_text(encoding="utf-8")))
            for name in names.split():
                self.assertIn(name, found)

    def test_l17_words(self):
        for path in files():
            text = path.read_text(encoding="utf-8")
            for word in BARRED_WORDS:
                self.assertIsNone(re.search(rf"\b{word}\b", text), f"{path.name} {word}")
            self.assertIsNone(re.search("dataclass|overload|contextmanager", text), path.name)

    def test_l18_no_method_is_an_attribute_elsewhere(self):
        methods = {part.name for _, node in nodes(ast.ClassDef) for part in node.body
                   if isinstance(part, ast.FunctionDef)}
        assigned = {node.attr for _, node in nodes(ast.Attribute) if isinstance(node.ctx, ast.Store)}
        self.assertEqual(methods & assigned, set())

    def test_l19_raise(self):
        for file, node in nodes(ast.Raise):
            if node.exc is not None:
                self.assertIsInstance(node.exc, ast.Call, file)
                self.assertIsInstance(node.exc.func, ast.Name, file)

    def test_l19_only_own_errors_are_caught(self):
        for file, node in nodes(ast.ExceptHandler):
            self.assertIsInstance(node.type, ast.Name, file)
            self.assertIn(node.type.id, INTERFACE["errors"].split(), file)

    def test_l22_keywords_of_calls(self):
        own = {node.name: [part.arg for part in node.args.args + node.args.kwonlyargs]
               for _, tree in trees() for node in tree.body if isinstance(node, ast.FunctionDef)}
        own["sorted"] = ["key", "reverse"]
        for file, node in nodes(ast.Call):
            for word in node.keywords:
                self.assertIsInstance(node.func, ast.Name, file)
                self.assertIn(word.arg, own[node.func.id], file)

    def test_l23_iterated_at_once(self):
        placed = [node.iter for _, node in nodes((ast.For, ast.comprehension))]
        placed += [node.args[0] for _, node in nodes(ast.Call)
                   if isinstance(node.func, ast.Name) and node.func.id in ITERATING and node.args]
        for file, node in nodes(ast.Call):
            if isinstance(node.func, ast.Name) and node.func.id in ("range", "zip", "enumerate", "reversed"):
                self.assertIn(node, placed, f"{file} {ast.unparse(node)}")
            if isinstance(node.func, ast.Attribute) and node.func.attr in ("items", "keys", "values"):
                self.assertIn(node, placed, f"{file} {ast.unparse(node)}")

    def test_l23_a_generator_is_not_a_value(self):
        found = generators()
        self.assertEqual(found, {"passed"})
        for file, node in nodes(ast.Name):
            self.assertNotIn(node.id, found, file)

    def test_l24_sets_are_sorted_or_asked_on_the_spot(self):
        sets = [node for _, node in nodes((ast.Set, ast.SetComp))]
        sets += [node for _, node in nodes(ast.Call) if isinstance(node.func, ast.Name) and node.func.id == "set"]
        placed = [part for _, node in nodes(ast.Call) if isinstance(node.func, ast.Name)
                  and node.func.id in ("sorted", "len") for part in node.args]
        for node in sets:
            self.assertIn(node, placed, ast.unparse(node))

    def test_l25_methods(self):
        own = {part.name for _, node in nodes(ast.ClassDef) for part in node.body if isinstance(part, ast.FunctionDef)}
        for file, node in nodes(ast.Call):
            if isinstance(node.func, ast.Attribute):
                self.assertIn(node.func.attr, own | BUILTIN_METHODS, file)

    def test_l20_is(self):
        for file, node in nodes(ast.Compare):
            for sign, right in zip(node.ops, node.comparators):
                if isinstance(sign, (ast.Is, ast.IsNot)):
                    self.assertIsInstance(right, ast.Constant, file)
                    self.assertIsInstance(right.value, (bool, type(None)), file)


if __name__ == "__main__":
    unittest.main()
