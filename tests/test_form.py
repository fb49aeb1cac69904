"""The form of the package's own files: what can be seen of the rules L1 to L28 of the language."""

import ast
import builtins
import pathlib
import re
import unittest

PACKAGE = pathlib.Path(__file__).resolve().parent.parent / "greywait"

STATEMENTS = (
    ast.Assign, ast.AugAssign, ast.AnnAssign, ast.If, ast.While, ast.For, ast.Return, ast.Break, ast.Continue,
    ast.Pass, ast.Raise, ast.Try, ast.Expr, ast.FunctionDef, ast.ClassDef, ast.ImportFrom,
)
EXPRESSIONS = (
    ast.Constant, ast.List, ast.Tuple, ast.Dict, ast.Set, ast.BinOp, ast.UnaryOp, ast.BoolOp, ast.Compare,
    ast.IfExp, ast.Call, ast.Attribute, ast.Subscript, ast.Slice, ast.ListComp, ast.JoinedStr,
    ast.FormattedValue, ast.Name, ast.Lambda,
)
BUILT_IN = """len range enumerate zip min max sum abs sorted reversed int str bool list tuple dict set frozenset
isinstance ord repr any all divmod Exception ValueError TypeError KeyError IndexError LookupError ZeroDivisionError
ArithmeticError OverflowError RuntimeError NotImplementedError AttributeError StopIteration""".split()
METHODS = """append clear copy count endswith extend find get index insert isalnum isalpha isdigit islower isspace
isupper items join keys ljust lower lstrip partition pop remove replace reverse rfind rjust rpartition rsplit rstrip
setdefault split splitlines startswith strip update upper values zfill bit_length""".split()
KEYWORDS = {
    "sorted": ("key", "reverse"), "min": ("key", "default"), "max": ("key", "default"), "sum": ("start",),
    "enumerate": ("start",), "zip": ("strict",),
}
WALKED = "zip enumerate reversed range items keys values".split()
WALKERS = "list tuple dict sorted sum any all enumerate zip min max".split()
DUNDER = ("__init__", "__eq__", "__repr__", "__str__", "__len__")
WORDS_OUT = """type typing typing_extensions enum Enum IntEnum StrEnum Flag IntFlag Generic Protocol ABC ABCMeta
namedtuple NamedTuple TypedDict TYPE_CHECKING abstractmethod""".split()
PARTS_OUT = ("dataclass", "overload", "contextmanager")
NAMES_OUT = """register mro elements open input version_info with_traceback add_note attrgetter breakpoint builtins
compile copyright credits delattr dir eval exec exit gc getattr globals hasattr help id importlib license locals
methodcaller os quit setattr super vars sys chr print""".split()
NAMES_OUT_EVERYWHERE = "register mro elements open input version_info with_traceback add_note format format_map".split()


def files():
    return sorted(PACKAGE.rglob("*.py"))


def nodes_of(kind):
    for path in files():
        for node in ast.walk(ast.parse(path.read_text("ascii"))):
            if isinstance(node, kind):
                yield path.name, node


def is_text(node):
    return isinstance(node, ast.Constant) and isinstance(node.value, str)


def own_classes():
    return {node.name for name, node in nodes_of(ast.ClassDef)}


def loose_classes(tree):
    """Names of classes that are neither called nor a base, nor beside isinstance or except."""
    held = set()
    classes = own_classes()
    for node in ast.walk(tree):
        if isinstance(node, ast.ClassDef):
            held |= {id(base) for base in node.bases}
        elif isinstance(node, ast.ExceptHandler):
            held |= {id(part) for part in ast.walk(node.type)}
        elif isinstance(node, ast.Call):
            held.add(id(node.func))
            if isinstance(node.func, ast.Name) and node.func.id == "isinstance":
                held |= {id(part) for part in ast.walk(node.args[1])}
        elif isinstance(node, ast.Attribute) and node.attr == "__init__":
            held.add(id(node.value))
    return [
        node.id for node in ast.walk(tree)
        if isinstance(node, ast.Name) and node.id in classes and id(node) not in held
    ]


def own_methods():
    return {
        item.name for name, node in nodes_of(ast.ClassDef) for item in node.body if isinstance(item, ast.FunctionDef)
    }


def own_values():
    return {
        node.attr for name, node in nodes_of(ast.Attribute) if isinstance(node.ctx, ast.Store)
    }


class TestFiles(unittest.TestCase):
    def test_there_are_files(self):
        self.assertIn(PACKAGE / "__init__.py", files())

    def test_only_python_files_with_plain_names_lie_there(self):
        for path in PACKAGE.rglob("*"):
            if "__pycache__" not in path.parts:
                with self.subTest(path=path):
                    self.assertTrue(path.is_file())
                    self.assertRegex(path.name, r"^[a-z0-9_]+\.py$")
                    self.assertNotIn(path.stem, dir(builtins) + WORDS_OUT + ["test", "tests", "testing", "site"])
                    self.assertFalse(path.stem.startswith("test_"))

    def test_signs_and_sizes(self):
        for path in files():
            rows = path.read_bytes().decode("ascii").split("\n")
            self.assertLessEqual(len(rows), 401, path.name)
            for place, row in enumerate(rows, start=1):
                with self.subTest(file=path.name, row=place):
                    self.assertLessEqual(len(row), 120)
                    self.assertTrue(all(" " <= sign <= "~" for sign in row))

    def test_words_that_stand_nowhere(self):
        for path in files():
            text = path.read_text("ascii")
            words = re.findall(r"[A-Za-z_0-9]+", text)
            for word in WORDS_OUT:
                self.assertNotIn(word, words, path.name)
            for part in PARTS_OUT:
                self.assertNotIn(part, text, path.name)


class TestTops(unittest.TestCase):
    def test_what_stands_at_a_files_top(self):
        for path in files():
            body = ast.parse(path.read_text("ascii")).body
            self.assertTrue(is_text(body[0].value), path.name)
            for node in body[1:]:
                with self.subTest(file=path.name, row=node.lineno):
                    self.assertIsInstance(node, (ast.ImportFrom, ast.FunctionDef, ast.ClassDef, ast.Assign))

    def test_values_of_a_files_top_are_written_out(self):
        for path in files():
            for node in ast.parse(path.read_text("ascii")).body:
                if isinstance(node, ast.Assign):
                    with self.subTest(file=path.name, row=node.lineno):
                        for part in ast.walk(node.value):
                            self.assertIsInstance(
                                part, (ast.Constant, ast.List, ast.Tuple, ast.Dict, ast.Name, ast.UnaryOp, ast.USub, ast.Load)
                            )

    def test_lists_and_dicts_of_a_files_top_hold_no_other_and_functions_from_above(self):
        for path in files():
            above = []
            for node in ast.parse(path.read_text("ascii")).body:
                if isinstance(node, ast.FunctionDef):
                    above.append(node.name)
                elif isinstance(node, ast.Assign):
                    inner = list(ast.walk(node.value))[1:]
                    with self.subTest(file=path.name, row=node.lineno):
                        self.assertFalse([part for part in inner if isinstance(part, (ast.List, ast.Dict))])
                        for part in inner:
                            self.assertTrue(not isinstance(part, ast.Name) or part.id in above)

    def test_lists_and_dicts_of_a_files_top_are_only_read(self):
        for path in files():
            tree = ast.parse(path.read_text("ascii"))
            kept = [
                node.targets[0].id for node in tree.body
                if isinstance(node, ast.Assign) and isinstance(node.value, (ast.List, ast.Dict))
            ]
            held = set()
            for node in ast.walk(tree):
                if isinstance(node, ast.Subscript) and isinstance(node.ctx, ast.Load):
                    held.add(id(node.value))
                elif isinstance(node, ast.Compare):
                    held |= {id(part) for part in node.comparators}
                elif isinstance(node, (ast.For, ast.comprehension)):
                    held.add(id(node.iter))
            for node in ast.walk(tree):
                if isinstance(node, ast.Name) and node.id in kept and isinstance(node.ctx, ast.Load):
                    with self.subTest(file=path.name, row=node.lineno):
                        self.assertIn(id(node), held)

    def test_each_name_once(self):
        for path in files():
            bound = []
            for node in ast.parse(path.read_text("ascii")).body:
                if isinstance(node, ast.ImportFrom):
                    bound += [alias.asname or alias.name for alias in node.names]
                elif isinstance(node, ast.Assign):
                    bound += [target.id for target in node.targets]
                elif isinstance(node, (ast.FunctionDef, ast.ClassDef)):
                    bound.append(node.name)
            self.assertEqual(sorted(bound), sorted(set(bound)), path.name)

    def test_imports_are_the_packages_own(self):
        for name, node in nodes_of(ast.ImportFrom):
            with self.subTest(file=name, row=node.lineno):
                self.assertEqual(node.level, 0)
                self.assertRegex(node.module, r"^greywait\.[a-z_0-9]+$")
                self.assertEqual(node.col_offset, 0)
                source = ast.parse((PACKAGE / (node.module.split(".")[1] + ".py")).read_text("ascii"))
                made = [item.name for item in source.body if isinstance(item, (ast.FunctionDef, ast.ClassDef))]
                made += [item.targets[0].id for item in source.body if isinstance(item, ast.Assign)]
                for alias in node.names:
                    self.assertIn(alias.name, made)

    def test_no_two_files_draw_from_one_another(self):
        drawn = {path.stem: set() for path in files()}
        for name, node in nodes_of(ast.ImportFrom):
            drawn[name[:-3]].add(node.module.split(".")[1])
        while drawn:
            free = [name for name in drawn if not drawn[name] & set(drawn)]
            self.assertTrue(free, drawn)
            drawn = {name: drawn[name] for name in drawn if name not in free}


class TestCode(unittest.TestCase):
    def test_statements_and_expressions(self):
        for name, node in nodes_of((ast.stmt, ast.expr)):
            with self.subTest(file=name, row=node.lineno):
                self.assertIsInstance(node, STATEMENTS + EXPRESSIONS)

    def test_functions(self):
        for name, node in nodes_of(ast.FunctionDef):
            with self.subTest(file=name, function=node.name):
                self.assertLessEqual(node.end_lineno - node.lineno + 1, 40)
                self.assertEqual(node.decorator_list, [])
                self.assertEqual((node.args.vararg, node.args.kwarg), (None, None))
                self.assertEqual((node.args.kwonlyargs, node.args.posonlyargs), ([], []))

    def test_classes(self):
        for name, node in nodes_of(ast.ClassDef):
            with self.subTest(file=name, row=node.lineno):
                self.assertEqual((node.decorator_list, node.keywords), ([], []))
                self.assertLessEqual(len(node.bases), 1)
                for item in node.body:
                    self.assertIsInstance(item, (ast.FunctionDef, ast.Pass))
        self.assertEqual(own_methods() & own_values(), set())

    def test_classes_are_not_handed_on(self):
        for path in files():
            self.assertEqual(loose_classes(ast.parse(path.read_text("ascii"))), [], path.name)

    def test_methods_with_two_underscores(self):
        for name, node in nodes_of(ast.FunctionDef):
            if node.name in DUNDER:
                with self.subTest(file=name, row=node.lineno):
                    inner = list(ast.walk(node))
                    if node.name == "__init__":
                        self.assertFalse([part for part in inner if isinstance(part, ast.Return)])
                    else:
                        self.assertFalse([part for part in inner if isinstance(part, (ast.Assign, ast.AugAssign))])

    def test_keywords_of_calls(self):
        classes = own_classes()
        for name, node in nodes_of(ast.Call):
            called = node.func.id if isinstance(node.func, ast.Name) else None
            if called not in KEYWORDS and (called in BUILT_IN or called in classes or called is None):
                with self.subTest(file=name, row=node.lineno):
                    self.assertEqual(node.keywords, [])
            if called in KEYWORDS:
                for keyword in node.keywords:
                    self.assertIn(keyword.arg, KEYWORDS[called])

    def test_sets_are_asked_on_the_spot(self):
        held = set()
        for name, node in nodes_of((ast.Call, ast.Compare)):
            if isinstance(node, ast.Compare):
                held |= {(name, part.lineno, part.col_offset) for part in [node.left] + node.comparators}
            elif isinstance(node.func, ast.Name) and node.func.id in ("len", "sorted"):
                held |= {(name, part.lineno, part.col_offset) for part in node.args}
        for name, node in nodes_of(ast.Call):
            if isinstance(node.func, ast.Name) and node.func.id in ("set", "frozenset"):
                self.assertIn((name, node.lineno, node.col_offset), held)

    def test_what_is_walked_is_walked_on_the_spot(self):
        held = set()
        for name, node in nodes_of((ast.For, ast.comprehension, ast.Call)):
            if not isinstance(node, ast.Call):
                held.add((name, node.iter.lineno, node.iter.col_offset))
            elif isinstance(node.func, ast.Name) and node.func.id in WALKERS and node.args:
                held.add((name, node.args[0].lineno, node.args[0].col_offset))
        for name, node in nodes_of(ast.Call):
            called = getattr(node.func, "id", getattr(node.func, "attr", None))
            if called in WALKED:
                with self.subTest(file=name, row=node.lineno):
                    self.assertIn((name, node.lineno, node.col_offset), held)

    def test_methods_are_called_where_they_stand(self):
        called = {(name, node.func.lineno, node.func.end_col_offset) for name, node in nodes_of(ast.Call)}
        methods = (set(METHODS) - own_values()) | own_methods()
        for name, node in nodes_of(ast.Attribute):
            if node.attr in methods:
                with self.subTest(file=name, row=node.lineno):
                    self.assertIn((name, node.lineno, node.end_col_offset), called)

    def test_small_forms(self):
        for name, node in nodes_of(ast.AST):
            with self.subTest(file=name, row=getattr(node, "lineno", 0)):
                if isinstance(node, ast.Constant):
                    self.assertIsInstance(node.value, (int, str, type(None)))
                    self.assertFalse(is_text(node) and "%" in node.value)
                if isinstance(node, (ast.For, ast.While)):
                    self.assertEqual(node.orelse, [])
                if isinstance(node, ast.Assign):
                    self.assertEqual(len(node.targets), 1)
                if isinstance(node, ast.ListComp):
                    self.assertEqual(len(node.generators), 1)
                    self.assertLessEqual(len(node.generators[0].ifs), 1)
                if isinstance(node, ast.Try):
                    self.assertEqual(node.finalbody, [])
                if isinstance(node, ast.ExceptHandler):
                    self.assertIsNotNone(node.type)
                self.assertNotIsInstance(node, (ast.Div, ast.MatMult, ast.Starred))

    def test_expressions_by_themselves_are_calls_or_the_docstring(self):
        for name, node in nodes_of(ast.Expr):
            with self.subTest(file=name, row=node.lineno):
                self.assertTrue(isinstance(node.value, ast.Call) or (is_text(node.value) and node.lineno == 1))

    def test_is_stands_beside_none_and_truths_alone(self):
        for name, node in nodes_of(ast.Compare):
            for operator, right in zip(node.ops, node.comparators):
                if isinstance(operator, (ast.Is, ast.IsNot)):
                    with self.subTest(file=name, row=node.lineno):
                        self.assertIsInstance(right, ast.Constant)
                        self.assertIn(right.value, (None, True, False))


class TestNames(unittest.TestCase):
    def test_names_that_are_read(self):
        for name, node in nodes_of(ast.Name):
            with self.subTest(file=name, row=node.lineno, name=node.id):
                self.assertRegex(node.id, r"^[A-Za-z][A-Za-z0-9_]*$")
                self.assertNotIn(node.id, NAMES_OUT)
                if isinstance(node.ctx, ast.Load) and hasattr(builtins, node.id):
                    self.assertIn(node.id, BUILT_IN)

    def test_names_that_are_bound(self):
        bound = [(name, node.id) for name, node in nodes_of(ast.Name) if isinstance(node.ctx, ast.Store)]
        bound += [(name, node.arg) for name, node in nodes_of(ast.arg)]
        for name, word in bound:
            with self.subTest(file=name, word=word):
                self.assertRegex(word, r"^[A-Za-z][A-Za-z0-9_]*$")
                self.assertFalse(hasattr(builtins, word))

    def test_defs_and_attributes(self):
        for name, node in nodes_of((ast.FunctionDef, ast.ClassDef)):
            with self.subTest(file=name, row=node.lineno):
                self.assertTrue(node.name in DUNDER or not node.name.startswith("_"))
                self.assertNotIn(node.name, NAMES_OUT_EVERYWHERE)
        known = set(METHODS) | own_methods() | own_values() | {"__init__"}
        for name, node in nodes_of(ast.Attribute):
            with self.subTest(file=name, row=node.lineno, attribute=node.attr):
                self.assertIn(node.attr, known)
                self.assertNotIn(node.attr, NAMES_OUT_EVERYWHERE)

    def test_no_local_is_called_like_a_class_or_an_import_of_its_file(self):
        for path in files():
            tree = ast.parse(path.read_text("ascii"))
            taken = {node.name for node in tree.body if isinstance(node, ast.ClassDef)}
            for node in tree.body:
                if isinstance(node, ast.ImportFrom):
                    taken |= {alias.asname or alias.name for alias in node.names}
            words = {node.arg for node in ast.walk(tree) if isinstance(node, ast.arg)}
            words |= {
                node.id for node in ast.walk(tree) if isinstance(node, ast.Name) and isinstance(node.ctx, ast.Store)
            }
            self.assertEqual(taken & words, set(), path.name)


if __name__ == "__main__":
    unittest.main()
