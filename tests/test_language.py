"""The rules of LANGUAGE.md that can be read off the package's files."""

import ast
import builtins
import functools
import pathlib
import re
import unittest

PACKAGE = pathlib.Path(__file__).resolve().parent.parent / "lockhouse"

OWN_NAMES = set(
    "len range enumerate zip min max sum abs sorted reversed int str bool list tuple dict set frozenset "
    "isinstance ord repr any all divmod Exception ValueError TypeError KeyError IndexError LookupError "
    "ZeroDivisionError ArithmeticError OverflowError RuntimeError NotImplementedError AttributeError "
    "StopIteration".split()
)
OWN_METHODS = set(
    "append clear copy count endswith extend find get index insert isalnum isalpha isdigit islower isspace "
    "isupper items join keys ljust lower lstrip partition pop remove replace reverse rfind rjust rpartition "
    "rsplit rstrip setdefault split splitlines startswith strip update upper values zfill bit_length".split()
)
DUNDERS = {"__init__", "__eq__", "__repr__", "__str__", "__len__"}
BARRED_WORDS = re.compile(
    r"\b(type|typing|typing_extensions|enum|Enum|IntEnum|StrEnum|Flag|IntFlag|Generic|Protocol|ABC|ABCMeta|"
    r"namedtuple|NamedTuple|TypedDict|TYPE_CHECKING|abstractmethod)\b|dataclass|overload|contextmanager"
)
BARRED_ANYWHERE = set("register mro elements open input version_info with_traceback add_note format format_map".split())
BARRED_NAMES = set(
    "attrgetter breakpoint builtins compile copyright credits delattr dir eval exec exit gc getattr globals hasattr "
    "help id importlib license locals methodcaller os quit setattr super type vars sys chr".split()
)
# L26: what a value of an object may be called though Python's own values have it, and what a method may.
FREE_VALUES = set("count index title find get join lower upper split strip copy add".split())
FREE_METHODS = OWN_METHODS | {"add", "discard"}
PYTHONS = {name for kind in (str, int, list, dict, set, bytes, tuple) for name in dir(kind)}
BARRED_NODES = (
    ast.With, ast.Match, ast.Delete, ast.Global, ast.Nonlocal, ast.Assert, ast.Yield, ast.YieldFrom,
    ast.AsyncFunctionDef, ast.AsyncFor, ast.AsyncWith, ast.Await, ast.Div, ast.SetComp, ast.DictComp,
    ast.GeneratorExp, ast.NamedExpr, ast.Starred, ast.AnnAssign, ast.Import, ast.MatMult,
)


def sources():
    return {path: path.read_text(encoding="utf-8") for path in sorted(PACKAGE.rglob("*.py"))}


@functools.lru_cache(maxsize=None)
def trees():
    return {path: ast.parse(text) for path, text in sources().items()}


def nodes_of(kind):
    return [(path, node) for path, tree in trees().items() for node in ast.walk(tree) if isinstance(node, kind)]


class Language(unittest.TestCase):
    def none(self, faults):
        self.assertEqual([], [(path.name, getattr(node, "lineno", node)) for path, node in faults])

    def test_files(self):
        for path in PACKAGE.rglob("*"):
            if "__pycache__" not in path.parts and path.is_file():
                self.assertRegex(path.name, r"^[a-z0-9_]+\.py$")

    def test_signs_words_and_sizes(self):
        for path, text in sources().items():
            with self.subTest(path=path.name):
                self.assertRegex(text, r"\A[ -~\n]*\Z")
                self.assertIsNone(BARRED_WORDS.search(text))
                rows = text.splitlines()
                self.assertLessEqual(len(rows), 400)
                self.assertLessEqual(max([len(row) for row in rows], default=0), 120)
        self.none([(p, n) for p, n in nodes_of(ast.FunctionDef) if n.end_lineno - n.lineno + 1 > 40])

    def test_imports_draw_from_the_defining_file_and_never_in_a_ring(self):
        draws = {}
        for path, node in nodes_of(ast.ImportFrom):
            self.assertEqual(node.level, 0)
            self.assertRegex(node.module, r"^lockhouse\.[a-z0-9_]+$")
            home = PACKAGE / (node.module.split(".")[1] + ".py")
            draws.setdefault(path, set()).add(home)
            for name in node.names:
                held = [getattr(item, "name", None) for item in trees()[home].body]
                held += [item.targets[0].id for item in trees()[home].body if isinstance(item, ast.Assign)]
                self.assertIn(name.name, held)
        while draws:
            free = [path for path in draws if not draws[path] & set(draws)]
            self.assertTrue(free, "files draw from one another")
            draws = {path: homes for path, homes in draws.items() if path not in free}

    def test_the_top_of_a_file(self):
        allowed = (ast.ImportFrom, ast.FunctionDef, ast.ClassDef, ast.Assign)
        for path, tree in trees().items():
            self.assertIsNotNone(ast.get_docstring(tree), path.name)
            self.none([(path, node) for node in tree.body[1:] if not isinstance(node, allowed)])

    def test_values_at_the_top_are_plain_and_hold_no_list_or_dict(self):
        for path, tree in trees().items():
            bound = [node.targets[0].id for node in tree.body if isinstance(node, ast.Assign)]
            self.assertEqual(len(bound), len(set(bound)), path.name)
            for node in tree.body:
                if isinstance(node, ast.Assign):
                    ast.literal_eval(node.value)
                    inner = [item for item in ast.walk(node.value) if item is not node.value]
                    self.none([(path, item) for item in inner if isinstance(item, (ast.List, ast.Dict, ast.Set))])

    def test_what_stands_at_the_top_is_never_changed(self):
        for path, tree in trees().items():
            bound = {node.targets[0].id for node in tree.body if isinstance(node, ast.Assign)}
            for node in ast.walk(tree):
                if isinstance(node, ast.Subscript) and isinstance(node.ctx, ast.Store):
                    self.assertNotIn(getattr(node.value, "id", ""), bound)
                if isinstance(node, ast.Call) and isinstance(node.func, ast.Attribute):
                    if getattr(node.func.value, "id", "") in bound:
                        self.assertIn(node.func.attr, ("index", "get", "count", "items", "keys", "values", "find"))

    def test_statements_and_expressions(self):
        self.none(nodes_of(BARRED_NODES))
        self.none([(p, n) for p, n in nodes_of((ast.For, ast.While)) if n.orelse])
        self.none([(p, n) for p, n in nodes_of(ast.Try) if n.finalbody])
        self.none([(p, n) for p, n in nodes_of(ast.Assign) if len(n.targets) > 1])
        self.none([(p, n) for p, n in nodes_of(ast.Constant) if isinstance(n.value, (float, bytes, complex))])
        self.none([(p, n) for p, n in nodes_of(ast.ListComp)
                   if len(n.generators) > 1 or len(n.generators[0].ifs) > 1])

    def test_functions_are_plain(self):
        self.none([(p, n) for p, n in nodes_of(ast.arguments) if n.vararg or n.kwarg or n.kwonlyargs or n.posonlyargs])
        self.none([(p, n) for p, n in nodes_of((ast.FunctionDef, ast.ClassDef)) if n.decorator_list])

    def test_classes_are_plain(self):
        for path, node in nodes_of(ast.ClassDef):
            self.assertLessEqual(len(node.bases), 1)
            self.none([(path, item) for item in node.body if not isinstance(item, (ast.FunctionDef, ast.Pass))])

    def test_no_name_is_a_method_in_one_class_and_a_value_in_another(self):
        methods = {item.name for p, node in nodes_of(ast.ClassDef) for item in node.body
                   if isinstance(item, ast.FunctionDef)}
        self.none([(p, n) for p, n in nodes_of(ast.Attribute)
                   if isinstance(n.ctx, ast.Store) and n.attr in methods])

    def test_names(self):
        bound = [(p, n.id, n) for p, n in nodes_of(ast.Name) if isinstance(n.ctx, ast.Store)]
        bound += [(p, n.arg, n) for p, n in nodes_of(ast.arg)]
        bound += [(p, n.name, n) for p, n in nodes_of((ast.FunctionDef, ast.ClassDef)) if n.name not in DUNDERS]
        self.none([(p, n) for p, name, n in bound if name.startswith("_")])
        local = [(p, n) for p, name, n in bound if hasattr(builtins, name) and not isinstance(n, ast.FunctionDef)]
        self.none(local)

    def test_no_local_is_called_like_a_class_or_an_import_of_its_file(self):
        for path, tree in trees().items():
            held = {node.name for node in tree.body if isinstance(node, ast.ClassDef)}
            held |= {name.name for node in tree.body if isinstance(node, ast.ImportFrom) for name in node.names}
            for node in ast.walk(tree):
                if isinstance(node, ast.arg):
                    self.assertNotIn(node.arg, held)
                if isinstance(node, ast.Name) and isinstance(node.ctx, ast.Store):
                    self.assertNotIn(node.id, held)

    def test_names_that_are_not_used(self):
        self.none([(p, n) for p, n in nodes_of(ast.Name) if n.id in BARRED_ANYWHERE | BARRED_NAMES])
        self.none([(p, n) for p, n in nodes_of(ast.arg) if n.arg in BARRED_ANYWHERE | BARRED_NAMES])
        self.none([(p, n) for p, n in nodes_of(ast.Attribute) if n.attr in BARRED_ANYWHERE])
        self.none([(p, n) for p, n in nodes_of((ast.FunctionDef, ast.ClassDef)) if n.name in BARRED_ANYWHERE])

    def test_own_methods_and_values_are_not_called_like_pythons(self):
        self.none([(p, n) for p, n in nodes_of(ast.Attribute)
                   if isinstance(n.ctx, ast.Store) and n.attr in PYTHONS - FREE_VALUES])
        self.none([(p, item) for p, node in nodes_of(ast.ClassDef) for item in node.body
                   if isinstance(item, ast.FunctionDef) and item.name in PYTHONS - FREE_METHODS - DUNDERS])

    def test_of_pythons_own_only_what_is_listed(self):
        self.none([(p, n) for p, n in nodes_of(ast.Name) if hasattr(builtins, n.id) and n.id not in OWN_NAMES])
        own = {n.name for p, n in nodes_of(ast.FunctionDef)}
        self.none([(p, n) for p, n in nodes_of(ast.Call) if isinstance(n.func, ast.Attribute)
                   and n.func.attr not in OWN_METHODS | own | DUNDERS])

    def test_refusals_are_taken_and_raised_by_name(self):
        own = {node.name for path, node in nodes_of(ast.ClassDef) if path.name == "errors.py"}
        for path, node in nodes_of(ast.ExceptHandler):
            self.assertIn(getattr(node.type, "id", None), own, (path.name, node.lineno))
        for path, node in nodes_of(ast.Raise):
            self.assertIsInstance(node.exc, ast.Call, (path.name, node.lineno))
            self.assertIn(node.exc.func.id, own - {"CanalError"}, (path.name, node.lineno))

    def test_what_is_raised_within_a_handler_comes_from_its_own_error(self):
        for path, handler in nodes_of(ast.ExceptHandler):
            causes = [node.cause for node in ast.walk(handler) if isinstance(node, ast.Raise)]
            self.assertEqual([getattr(cause, "id", None) for cause in causes], [handler.name] * len(causes), path.name)

    def test_texts(self):
        texts = [(p, n) for p, n in nodes_of(ast.Constant) if isinstance(n.value, str)]
        self.none([(p, n) for p, n in texts if chr(37) in n.value])
        filled = nodes_of(ast.FormattedValue)
        self.none([(p, n) for p, n in filled if not isinstance(n.value, ast.Name) or n.format_spec])

    def test_of_the_methods_with_two_underscores_only_init(self):
        self.none([(p, n) for p, n in nodes_of(ast.FunctionDef) if n.name.startswith("__") and n.name != "__init__"])

    def test_lazy_walks_are_walked_on_the_spot(self):
        lazy = ("zip", "enumerate", "reversed", "range", "items", "keys", "values")
        walkers = ("list", "tuple", "dict", "sorted", "sum", "any", "all", "enumerate", "zip", "min", "max", "reversed")
        for path, tree in trees().items():
            walked = []
            for node in ast.walk(tree):
                if isinstance(node, (ast.For, ast.comprehension)):
                    walked.append(node.iter)
                if isinstance(node, ast.Call) and getattr(node.func, "id", "") in walkers:
                    walked.extend(node.args[:1])
            self.none([(path, node) for node in ast.walk(tree) if isinstance(node, ast.Call) and node not in walked
                       and getattr(node.func, "id", getattr(node.func, "attr", "")) in lazy])

    def test_sets_are_neither_kept_nor_walked(self):
        for path, tree in trees().items():
            beside = []
            for node in ast.walk(tree):
                if isinstance(node, ast.Compare):
                    beside.extend([node.left] + node.comparators)
                if isinstance(node, ast.Call) and getattr(node.func, "id", "") in ("sorted", "len"):
                    beside.extend(node.args)
            self.none([(path, node) for node in ast.walk(tree) if isinstance(node, ast.Call) and node not in beside
                       and getattr(node.func, "id", "") in ("set", "frozenset")])
            self.none([(path, node) for node in ast.walk(tree) if isinstance(node, ast.Set)])

    def test_is_stands_beside_none_true_and_false_alone(self):
        for path, node in nodes_of(ast.Compare):
            for sign, right in zip(node.ops, node.comparators):
                if isinstance(sign, (ast.Is, ast.IsNot)):
                    self.assertTrue(isinstance(right, ast.Constant) and right.value in (None, True, False))


if __name__ == "__main__":
    unittest.main()
