"""The package's files keep to the small part of Python that the program is written in (L1 to L28).

Rules that want a reader's eye are not looked at here.
"""

import ast
import builtins
import pathlib
import re
import unittest

PACKAGE = pathlib.Path(__file__).resolve().parent.parent / "cancome"
OWN_NAMES = set("""len range enumerate zip min max sum abs sorted reversed int str bool list tuple dict set frozenset
    isinstance ord repr any all divmod Exception ValueError TypeError KeyError IndexError LookupError
    ZeroDivisionError ArithmeticError OverflowError RuntimeError NotImplementedError AttributeError
    StopIteration""".split())
METHODS = set("""append clear copy count endswith extend find get index insert isalnum isalpha isdigit islower isspace
    isupper items join keys ljust lower lstrip partition pop remove replace reverse rfind rjust rpartition rsplit
    rstrip setdefault split splitlines startswith strip update upper values zfill bit_length""".split())
TWO_UNDERSCORES = {"__init__", "__eq__", "__repr__", "__str__", "__len__"}
BAD_WORDS = set("""type typing typing_extensions enum Enum IntEnum StrEnum Flag IntFlag Generic Protocol ABC ABCMeta
    namedtuple NamedTuple TypedDict TYPE_CHECKING abstractmethod""".split())
BAD_PARTS = ("dataclass", "overload", "contextmanager")
BAD_NAMES = set("""register mro elements open input version_info with_traceback add_note attrgetter breakpoint builtins
    compile copyright credits delattr dir eval exec exit gc getattr globals hasattr help id importlib license locals
    methodcaller os quit setattr super type vars sys chr format format_map""".split())
WALKED = {"zip", "enumerate", "reversed", "range", "items", "keys", "values"}
WALKERS = {"list", "tuple", "dict", "sorted", "sum", "any", "all", "enumerate", "zip", "min", "max"}
NODES = set("""Module Expr Constant ImportFrom alias FunctionDef arguments arg ClassDef Assign AugAssign If While For
    Return Break Continue Pass Raise Try ExceptHandler Name Load Store Attribute Subscript Slice Call keyword BinOp
    UnaryOp BoolOp Compare IfExp List Tuple Dict ListComp comprehension Lambda JoinedStr FormattedValue Add Sub Mult
    FloorDiv Mod Pow BitAnd BitOr BitXor Invert LShift RShift USub UAdd And Or Not Eq NotEq Lt LtE Gt GtE Is IsNot In
    NotIn""".split())


def sources():
    return [(path, path.read_text("utf-8")) for path in sorted(PACKAGE.glob("*.py"))]


def trees():
    return [(path.name, ast.parse(text)) for path, text in sources()]


def all_nodes():
    return [(name, node) for name, tree in trees() for node in ast.walk(tree)]


class Language(unittest.TestCase):
    def test_files(self):
        self.assertIn("desk.py", [path.name for path, text in sources()])
        for path in PACKAGE.iterdir():
            if path.name != "__pycache__":
                self.assertRegex(path.name, r"^(__init__|[a-z][a-z0-9_]*)\.py$")
                self.assertNotIn(path.stem, dir(builtins))

    def test_signs_and_sizes(self):
        for path, text in sources():
            self.assertRegex(text, r"\A[ -~\n]*\Z", path.name)
            lines = text.splitlines()
            self.assertLessEqual(len(lines), 400, path.name)
            self.assertLessEqual(max(len(line) for line in lines), 120, path.name)
        for name, node in all_nodes():
            if isinstance(node, ast.FunctionDef):
                self.assertLessEqual(node.end_lineno - node.lineno + 1, 40, (name, node.name))

    def test_words(self):
        for path, text in sources():
            self.assertFalse(BAD_WORDS & set(re.findall(r"\w+", text)), path.name)
            self.assertFalse([part for part in BAD_PARTS if part in text], path.name)

    def test_statements_and_expressions(self):
        for name, node in all_nodes():
            place = (name, getattr(node, "lineno", 0))
            self.assertIn(type(node).__name__, NODES, place)
            if isinstance(node, (ast.FunctionDef, ast.ClassDef)):
                self.assertEqual(node.decorator_list, [], place)
            if isinstance(node, ast.arguments):
                self.assertFalse(node.vararg or node.kwarg or node.kwonlyargs or node.posonlyargs, name)
            if isinstance(node, (ast.For, ast.While)):
                self.assertEqual(node.orelse, [], place)
            if isinstance(node, ast.Try):
                self.assertEqual(node.finalbody, [], place)
            if isinstance(node, ast.Assign):
                self.assertEqual(len(node.targets), 1, place)
            if isinstance(node, ast.ListComp):
                self.assertEqual(len(node.generators), 1, place)
                self.assertLessEqual(len(node.generators[0].ifs), 1, place)
            if isinstance(node, ast.Constant):
                self.assertIn(type(node.value), (int, str, bool, type(None)), place)
                self.assertNotIn("%", str(node.value), place)

    def test_names(self):
        for name, node in all_nodes():
            for word, bound in names_in(node):
                self.assertNotIn(word, BAD_NAMES, name)
                if word not in TWO_UNDERSCORES:
                    self.assertRegex(word, r"^[A-Za-z][A-Za-z0-9_]*$", name)
                if word in dir(builtins):
                    self.assertTrue(word in OWN_NAMES and not bound, (name, word))

    def test_methods(self):
        own = {node.name for name, node in all_nodes() if isinstance(node, ast.FunctionDef)}
        for name, node in all_nodes():
            if isinstance(node, ast.Call) and isinstance(node.func, ast.Attribute):
                self.assertIn(node.func.attr, METHODS | own, name)

    def test_walked_at_once(self):
        for name, tree in trees():
            walked = [place.iter for place in ast.walk(tree) if isinstance(place, (ast.For, ast.comprehension))]
            walked += [call.args[0] for call in calls_in(tree) if called(call) in WALKERS and call.args]
            kept = [call for call in calls_in(tree) if called(call) in WALKED and call not in walked]
            self.assertEqual([(called(call), call.lineno) for call in kept], [], name)

    def test_sets(self):
        for name, tree in trees():
            beside = [part for place in ast.walk(tree) if isinstance(place, ast.Compare)
                      for part in [place.left] + place.comparators]
            beside += [call.args[0] for call in calls_in(tree) if called(call) in ("sorted", "len")]
            kept = [call for call in calls_in(tree) if called(call) in ("set", "frozenset") and call not in beside]
            self.assertEqual([call.lineno for call in kept], [], name)

    def test_no_name_is_both_a_method_and_a_value(self):
        methods = {node.name for name, place in all_nodes() if isinstance(place, ast.ClassDef) for node in place.body
                   if isinstance(node, ast.FunctionDef)}
        values = {node.attr for name, node in all_nodes() if isinstance(node, ast.Attribute)
                  and isinstance(node.ctx, ast.Store)}
        self.assertEqual(methods & values, set())
        known = {word for kind in (str, int, list, dict, set, bytes, tuple, bool) for word in dir(kind)}
        self.assertEqual(values & known, set())

    def test_no_local_is_called_like_an_import(self):
        for name, tree in trees():
            imported = {part.name for row in tree.body if isinstance(row, ast.ImportFrom) for part in row.names}
            imported |= {row.name for row in tree.body if isinstance(row, ast.ClassDef)}
            bound = {word for node in ast.walk(tree) if isinstance(node, (ast.Name, ast.arg, ast.ExceptHandler))
                     for word, stored in names_in(node) if stored}
            self.assertEqual(imported & bound, set(), name)

    def test_is_stands_beside_none_true_and_false_alone(self):
        for name, node in all_nodes():
            if isinstance(node, ast.Compare) and isinstance(node.ops[0], (ast.Is, ast.IsNot)):
                self.assertIsInstance(node.comparators[0], ast.Constant, (name, node.lineno))

    def test_imports(self):
        drawn = {}
        for name, tree in trees():
            rows = [node for node in ast.walk(tree) if isinstance(node, ast.ImportFrom)]
            self.assertTrue(all(row in tree.body and row.level == 0 for row in rows), name)
            drawn["cancome." + name[:-3]] = [row.module for row in rows]
            for row in rows:
                defined = dict(trees())[row.module.split(".")[1] + ".py"].body
                for part in row.names:
                    self.assertIsNone(part.asname, name)
                    self.assertIn(part.name, [getattr(node, "name", "") for node in defined], name)
        self.assertEqual(drawn["cancome.__init__"], [])
        # Taking away, again and again, the files that draw from none that is left: a circle would stay.
        while drawn:
            free = [name for name in drawn if not [other for other in drawn[name] if other in drawn]]
            self.assertTrue(free, drawn)
            drawn = {name: drawn[name] for name in drawn if name not in free}


def calls_in(tree):
    return [node for node in ast.walk(tree) if isinstance(node, ast.Call)]


def called(call):
    """The name of the function or method that is called, "" if it has none."""
    return getattr(call.func, "id", getattr(call.func, "attr", ""))


def names_in(node):
    """The names that stand in this very node, each with whether it is bound there."""
    if isinstance(node, ast.Name):
        return [(node.id, isinstance(node.ctx, ast.Store))]
    if isinstance(node, ast.arg):
        return [(node.arg, True)]
    if isinstance(node, (ast.FunctionDef, ast.ClassDef)):
        return [(node.name, True)]
    if isinstance(node, ast.ExceptHandler) and node.name:
        return [(node.name, True)]
    if isinstance(node, ast.Attribute) and node.attr not in METHODS:
        return [(node.attr, isinstance(node.ctx, ast.Store))]
    return []


if __name__ == "__main__":
    unittest.main()
