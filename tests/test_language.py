"""The package keeps to the part of Python that ../shared/LANGUAGE.md tells, as far as a walk of its code sees."""

import ast
import builtins
import pathlib
import re
import unittest

PACKAGE = pathlib.Path(__file__).resolve().parent.parent / "shardask"
FILES = sorted(path for path in PACKAGE.rglob("*") if "__pycache__" not in path.parts and path.is_file())

OWN_NAMES = set("""len range enumerate zip min max sum abs sorted reversed int str bool list tuple dict set frozenset
    isinstance ord repr any all divmod Exception ValueError TypeError KeyError IndexError LookupError ZeroDivisionError
    ArithmeticError OverflowError RuntimeError NotImplementedError AttributeError StopIteration""".split())
METHODS = set("""append clear copy count endswith extend find get index insert isalnum isalpha isdigit islower isspace
    isupper items join keys ljust lower lstrip partition pop remove replace reverse rfind rjust rpartition rsplit rstrip
    setdefault split splitlines startswith strip update upper values zfill bit_length""".split())
SPECIAL = {"__init__", "__eq__", "__repr__", "__str__", "__len__"}
FREE_VALUES = set("count index title find get join lower upper split strip copy add".split())
UNUSED = set("""register mro elements open input version_info with_traceback add_note attrgetter breakpoint builtins
    compile copyright credits delattr dir eval exec exit gc getattr globals hasattr help id importlib license locals
    methodcaller os quit setattr super vars sys""".split())
NO_WORDS = re.compile(
    r"\b(type|typing|typing_extensions|enum|Enum|IntEnum|StrEnum|Flag|IntFlag|Generic|Protocol|ABC|ABCMeta|namedtuple"
    r"|NamedTuple|TypedDict|TYPE_CHECKING|abstractmethod)\b|dataclass|overload|contextmanager")
NODES = tuple(getattr(ast, name) for name in """Module Expr Constant ImportFrom alias FunctionDef arguments arg ClassDef
    Assign AugAssign If While For Return Break Continue Pass Raise Try ExceptHandler Call Name Load Store Attribute
    Subscript Slice List Tuple Dict BinOp UnaryOp BoolOp Compare IfExp ListComp comprehension JoinedStr FormattedValue
    Lambda keyword And Or Not USub UAdd Invert Add Sub Mult FloorDiv Mod Pow BitAnd BitOr BitXor LShift RShift Eq NotEq
    Lt LtE Gt GtE Is IsNot In NotIn""".split())
WALKED = ("zip", "enumerate", "reversed", "range")
DEFS = (ast.FunctionDef, ast.ClassDef)


def parsed(path):
    return ast.parse(path.read_text(encoding="utf-8"))


def nodes(*kinds):
    """Each such node of the package's files, with the place where it stands."""
    for path in FILES:
        for node in ast.walk(parsed(path)):
            if isinstance(node, kinds or ast.AST):
                yield f"{path.name}:{getattr(node, 'lineno', 0)}", node


def methods_of(tree):
    return [part for node in tree.body if isinstance(node, ast.ClassDef) for part in node.body
            if isinstance(part, ast.FunctionDef)]


def imported_by(tree):
    return [part.name for node in tree.body if isinstance(node, ast.ImportFrom) for part in node.names]


def defined_at_top(tree):
    names = [node.name for node in tree.body if isinstance(node, DEFS)]
    return names + [node.targets[0].id for node in tree.body if isinstance(node, ast.Assign)]


def bound_names(tree):
    methods = methods_of(tree)
    for node in ast.walk(tree):
        if isinstance(node, DEFS) and node not in methods:
            yield node.name
        elif isinstance(node, ast.arg):
            yield node.arg
        elif isinstance(node, ast.Name) and isinstance(node.ctx, ast.Store):
            yield node.id
        elif isinstance(node, ast.ExceptHandler) and node.name:
            yield node.name


class LanguageTest(unittest.TestCase):
    def test_files(self):
        self.assertIn(PACKAGE / "__init__.py", FILES)
        for path in FILES:
            self.assertRegex(path.name, r"\A(__init__|__main__|[a-z][a-z0-9_]*)\.py\Z")

    def test_signs_sizes_and_words_that_stand_nowhere(self):
        for path in FILES:
            text = path.read_text(encoding="utf-8")
            self.assertRegex(text, r"\A[ -~\n]*\Z", path.name)
            self.assertIsNone(NO_WORDS.search(text), path.name)
            self.assertLessEqual(len(text.splitlines()), 400, path.name)
            for line in text.splitlines():
                self.assertLessEqual(len(line), 120, (path.name, line))

    def test_nodes(self):
        for place, node in nodes():
            self.assertIsInstance(node, NODES, place)
        for place, node in nodes(ast.Constant):
            self.assertIn(node.value.__class__, (int, str, bool, None.__class__), place)
            self.assertNotIn("%", str(node.value), place)
        for place, node in nodes(ast.Assign):
            self.assertEqual(len(node.targets), 1, place)
        for place, node in nodes(ast.For, ast.While):
            self.assertEqual(node.orelse, [], place)
        for place, node in nodes(ast.ListComp):
            self.assertEqual(len(node.generators), 1, place)
            self.assertLessEqual(len(node.generators[0].ifs), 1, place)

    def test_functions(self):
        for place, node in nodes(ast.FunctionDef):
            self.assertLessEqual(node.end_lineno - node.lineno + 1, 40, place)
            self.assertEqual(node.decorator_list, [], place)
            given = node.args
            self.assertFalse(given.vararg or given.kwarg or given.kwonlyargs or given.posonlyargs, place)

    def test_classes(self):
        for path in FILES:
            tree = parsed(path)
            top = [node for node in tree.body if isinstance(node, ast.ClassDef)]
            self.assertEqual(top, [node for node in ast.walk(tree) if isinstance(node, ast.ClassDef)], path.name)
        for place, node in nodes(ast.ClassDef):
            self.assertLessEqual(len(node.bases), 1, place)
            self.assertEqual(node.decorator_list + node.keywords, [], place)
            for part in node.body:
                self.assertIsInstance(part, (ast.FunctionDef, ast.Pass), place)

    def test_the_top_of_a_module(self):
        for path in FILES:
            tree = parsed(path)
            for number, node in enumerate(tree.body):
                place = (path.name, node.lineno)
                if isinstance(node, ast.Expr):
                    self.assertEqual(number, 0, place)
                    self.assertIsInstance(node.value, ast.Constant, place)
                elif isinstance(node, ast.Assign):
                    made = [part for part in ast.walk(node.value) if isinstance(part, (ast.Call, ast.ListComp))]
                    self.assertEqual(made, [], place)
                else:
                    self.assertIsInstance(node, DEFS + (ast.ImportFrom,), place)
            names = imported_by(tree) + defined_at_top(tree)
            self.assertEqual(len(names), len(set(names)), path.name)

    def test_imports(self):
        for place, node in nodes(ast.ImportFrom):
            self.assertEqual(node.level, 0, place)
            self.assertRegex(node.module, r"\Ashardask\.[a-z_]+\Z", place)
            defined = defined_at_top(parsed(PACKAGE / (node.module.split(".")[1] + ".py")))
            for part in node.names:
                self.assertIn(part.name, defined, place)
                self.assertIsNone(part.asname, place)

    def test_no_two_files_draw_from_one_another(self):
        drawn = {path.stem: set() for path in FILES}
        for place, node in nodes(ast.ImportFrom):
            drawn[place.split(".")[0]].add(node.module.split(".")[1])
        while drawn:
            free = [name for name in drawn if not drawn[name] & set(drawn)]
            self.assertTrue(free, f"these draw from one another: {sorted(drawn)}")
            for name in free:
                del drawn[name]

    def test_names(self):
        for path in FILES:
            tree = parsed(path)
            imported, bound = imported_by(tree), list(bound_names(tree))
            for name in bound + [method.name for method in methods_of(tree)]:
                self.assertTrue(name in SPECIAL or re.fullmatch(r"[A-Za-z][A-Za-z0-9_]*", name), (path.name, name))
                self.assertNotIn(name, UNUSED, path.name)
            for name in bound:
                self.assertFalse(hasattr(builtins, name), (path.name, name))
                self.assertNotIn(name, imported, path.name)
            for node in ast.walk(tree):
                if isinstance(node, ast.Name):
                    self.assertIn(node.id, OWN_NAMES.union(bound, imported), (path.name, node.lineno))

    def test_attributes(self):
        own = {method.name for path in FILES for method in methods_of(parsed(path))}
        own.update(node.attr for place, node in nodes(ast.Attribute) if isinstance(node.ctx, ast.Store))
        for place, node in nodes(ast.Attribute):
            self.assertIn(node.attr, METHODS | own, place)
            self.assertNotIn(node.attr, UNUSED | {"format", "format_map"}, place)

    def test_own_methods_and_values(self):
        methods = [part.name for place, node in nodes(ast.ClassDef) for part in node.body
                   if isinstance(part, ast.FunctionDef)]
        values = {node.attr for place, node in nodes(ast.Attribute) if isinstance(node.ctx, ast.Store)}
        self.assertEqual(values & set(methods), set())
        taken = {name for kind in (str, int, list, tuple, dict, set, bytes) for name in dir(kind)} - SPECIAL
        self.assertEqual(values & (taken - FREE_VALUES), set())
        self.assertEqual(set(methods) & (taken - METHODS - {"add", "discard"}), set())
        for place, node in nodes(ast.ClassDef):
            own = [part.name for part in node.body if isinstance(part, ast.FunctionDef)]
            self.assertEqual(len(own), len(set(own)), place)

    def test_is_stands_beside_none_true_and_false(self):
        for place, node in nodes(ast.Compare):
            for sign, right in zip(node.ops, node.comparators):
                if isinstance(sign, (ast.Is, ast.IsNot)):
                    self.assertTrue(isinstance(right, ast.Constant), place)
                    self.assertIn(repr(right.value), ("None", "True", "False"), place)

    def test_walked_at_once_and_no_set_kept(self):
        for place, node in nodes(ast.Assign, ast.Return):
            called = node.value.func if isinstance(node.value, ast.Call) else None
            self.assertNotIn(getattr(called, "id", None), WALKED + ("set", "frozenset"), place)
            self.assertNotIn(getattr(called, "attr", None), ("items", "keys", "values"), place)

    def test_no_error_of_python_s_own_is_taken_broadly(self):
        for place, node in nodes(ast.ExceptHandler):
            self.assertIsNotNone(node.type, place)
            self.assertNotIn(ast.unparse(node.type), ("Exception", "TypeError"), place)


if __name__ == "__main__":
    unittest.main()
