"""The package's files keep to the small part of Python: what of its rules (L1 to L28) can be seen in the code."""

import ast
import builtins
import re
import unittest
from pathlib import Path

PACKAGE = "sharedhelp"
FOLDER = Path(__file__).resolve().parent.parent / PACKAGE

ALLOWED_BUILTINS = set(
    "len range enumerate zip min max sum abs sorted reversed int str bool list tuple dict set frozenset isinstance ord"
    " repr any all divmod Exception ValueError TypeError KeyError IndexError LookupError ZeroDivisionError"
    " ArithmeticError OverflowError RuntimeError NotImplementedError AttributeError StopIteration".split())
BUILTIN_NAMES = {name for name in dir(builtins) if not name.startswith("_")}
VALUE_METHODS = set(
    "append clear copy count endswith extend find get index insert isalnum isalpha isdigit islower isspace isupper"
    " items join keys ljust lower lstrip partition pop remove replace reverse rfind rjust rpartition rsplit rstrip"
    " setdefault split splitlines startswith strip update upper values zfill bit_length".split())
DUNDER_METHODS = {"__init__", "__eq__", "__repr__", "__str__", "__len__"}
UNUSED_NAMES = set("register mro elements open input version_info with_traceback add_note".split())
UNUSED_WORDS = set(
    "type typing typing_extensions enum Enum IntEnum StrEnum Flag IntFlag Generic Protocol ABC ABCMeta namedtuple"
    " NamedTuple TypedDict TYPE_CHECKING abstractmethod".split())
UNUSED_PARTS = ("dataclass", "overload", "contextmanager")
PYTHONS_OWN = {name for kind in (str, int, list, dict, set, bytes, tuple) for name in dir(kind)}

STATEMENTS = (ast.Assign, ast.AugAssign, ast.If, ast.While, ast.For, ast.Return, ast.Break, ast.Continue, ast.Pass,
              ast.Raise, ast.Try, ast.Expr, ast.FunctionDef)
EXPRESSIONS = (ast.Constant, ast.List, ast.Tuple, ast.Dict, ast.Set, ast.BinOp, ast.UnaryOp, ast.BoolOp, ast.Compare,
               ast.IfExp, ast.Call, ast.Attribute, ast.Subscript, ast.Slice, ast.ListComp, ast.JoinedStr,
               ast.FormattedValue, ast.Name, ast.Lambda)


class Source:
    """One file of the package."""

    def __init__(self, path):
        self.path = path
        self.text = path.read_text(encoding="utf-8")
        self.tree = ast.parse(self.text)
        self.nodes = list(ast.walk(self.tree))
        self.defs = [node for node in self.nodes if isinstance(node, ast.FunctionDef)]
        self.classes = [node for node in self.nodes if isinstance(node, ast.ClassDef)]
        self.imports = [node for node in self.nodes if isinstance(node, (ast.Import, ast.ImportFrom))]

    def imported(self):
        return [alias.asname or alias.name for node in self.imports for alias in node.names]

    def top_names(self):
        told = []
        for node in self.tree.body:
            if isinstance(node, (ast.FunctionDef, ast.ClassDef)):
                told.append(node.name)
            if isinstance(node, ast.Assign):
                told += [target.id for target in node.targets]
        return told

    def module(self):
        return PACKAGE if self.path.name == "__init__.py" else PACKAGE + "." + self.path.stem


SOURCES = [Source(path) for path in sorted(FOLDER.glob("*.py"))]


def is_docstring(node):
    return isinstance(node, ast.Expr) and isinstance(node.value, ast.Constant) and isinstance(node.value.value, str)


def is_plain(node, known):
    if isinstance(node, (ast.List, ast.Tuple)):
        return all(is_plain(part, known) for part in node.elts)
    if isinstance(node, ast.Dict):
        return all(is_plain(part, known) for part in node.keys + node.values)
    if isinstance(node, ast.Name):
        return node.id in known
    return isinstance(node, ast.Constant) and isinstance(node.value, (int, str, bool, type(None)))


def is_call_of(node, names):
    return isinstance(node, ast.Call) and isinstance(node.func, ast.Name) and node.func.id in names


def is_walk(node):
    """Whether the node is something that is walked on the spot, not kept."""
    if is_call_of(node, ("zip", "enumerate", "reversed", "range")):
        return True
    return (isinstance(node, ast.Call) and isinstance(node.func, ast.Attribute)
            and node.func.attr in ("items", "keys", "values"))


class LanguageTest(unittest.TestCase):
    def check(self, wrong):
        """wrong: pairs of a source and a node that breaks the rule."""
        self.assertEqual([f"{source.path.name}:{getattr(node, 'lineno', node)}" for source, node in wrong], [])

    def test_files(self):
        there = [path for path in FOLDER.rglob("*") if "__pycache__" not in path.parts]
        self.assertEqual([path.name for path in there if not re.fullmatch(r"(__init__|[a-z][a-z0-9_]*)\.py", path.name)],
                         [])
        stems = {path.stem for path in there}
        self.assertEqual(stems & (BUILTIN_NAMES | UNUSED_WORDS | {"test", "tests", "testing", "site", "conftest"}), set())
        self.assertIn("__init__", stems)

    def test_signs_and_sizes(self):
        for source in SOURCES:
            lines = source.text.split("\n")
            self.assertRegex(source.text, r"\A[ -~\n]*\Z")
            self.assertLessEqual(len(lines) - 1, 400, source.path.name)
            self.check([(source, at) for at, line in enumerate(lines, 1) if len(line) > 120])
            self.check([(source, node) for node in source.defs if node.end_lineno - node.lineno + 1 > 40])

    def test_words(self):
        for source in SOURCES:
            self.assertEqual(set(re.findall(r"\w+", source.text)) & UNUSED_WORDS, set(), source.path.name)
            self.assertEqual([part for part in UNUSED_PARTS if part in source.text], [])

    def test_imports(self):
        by_module = {source.module(): source for source in SOURCES}
        draws = {}
        for source in SOURCES:
            self.check([(source, node) for node in source.imports
                        if not isinstance(node, ast.ImportFrom) or node.level or node not in source.tree.body])
            draws[source.module()] = {node.module for node in source.imports}
            for node in source.imports:
                self.assertIn(node.module, by_module)
                self.assertLessEqual({alias.name for alias in node.names}, set(by_module[node.module].top_names()))
        while draws:
            free = [module for module in draws if not draws[module] & set(draws)]
            self.assertTrue(free, "files draw from one another")
            draws = {module: drawn for module, drawn in draws.items() if module not in free}

    def test_top_of_a_module(self):
        for source in SOURCES:
            known = [node.name for node in source.tree.body if isinstance(node, ast.FunctionDef)]
            wrong = []
            for place, node in enumerate(source.tree.body):
                if isinstance(node, ast.Assign):
                    plain = isinstance(node.targets[0], ast.Name) and is_plain(node.value, known)
                else:
                    plain = isinstance(node, (ast.ImportFrom, ast.FunctionDef, ast.ClassDef))
                if not plain and not (place == 0 and is_docstring(node)):
                    wrong.append((source, node))
            self.check(wrong)
            bound = source.imported() + source.top_names()
            self.assertEqual(len(bound), len(set(bound)), source.path.name)

    def test_functions_and_classes(self):
        for source in SOURCES:
            self.check([(source, node) for node in source.defs
                        if node.decorator_list or node.returns or node.args.vararg or node.args.kwarg
                        or node.args.kwonlyargs or node.args.posonlyargs
                        or any(arg.annotation for arg in node.args.args)])
            self.check([(source, node) for node in source.classes
                        if len(node.bases) > 1 or node.keywords or node.decorator_list or node not in source.tree.body])
            self.check([(source, part) for node in source.classes for part in node.body
                        if not isinstance(part, ast.FunctionDef) and not is_docstring(part)])

    def test_statements(self):
        for source in SOURCES:
            inner = [node for part in source.defs for node in ast.walk(part) if isinstance(node, ast.stmt)]
            self.check([(source, node) for node in inner if not isinstance(node, STATEMENTS)])
            self.check([(source, node) for node in inner
                        if isinstance(node, ast.Assign) and (len(node.targets) != 1
                                                             or isinstance(node.targets[0], (ast.Tuple, ast.List)))])
            self.check([(source, node) for node in inner
                        if isinstance(node, (ast.While, ast.For)) and node.orelse
                        or isinstance(node, ast.Try) and node.finalbody])
            self.check([(source, node) for node in inner if isinstance(node, ast.Expr)
                        and not isinstance(node.value, ast.Call) and not is_docstring(node)])

    def test_expressions(self):
        for source in SOURCES:
            self.check([(source, node) for node in source.nodes
                        if isinstance(node, ast.expr) and not isinstance(node, EXPRESSIONS)])
            self.check([(source, node) for node in source.nodes if isinstance(node, ast.ListComp)
                        and (len(node.generators) != 1 or len(node.generators[0].ifs) > 1)])
            self.check([(source, node) for node in source.nodes if isinstance(node, ast.Constant)
                        and (isinstance(node.value, (float, complex, bytes)) or node.value is Ellipsis)])
            self.check([(source, node) for node in source.nodes if isinstance(node, ast.Constant)
                        and isinstance(node.value, str) and "%" in node.value])
            operations = [node for node in source.nodes if isinstance(node, (ast.BinOp, ast.AugAssign))]
            self.check([(source, node) for node in operations if isinstance(node.op, (ast.Div, ast.MatMult))])
            self.check([(source, node) for node in operations if isinstance(node.op, ast.Pow)])
            self.check([(source, node) for node in source.nodes if isinstance(node, ast.Compare)
                        and any(isinstance(op, (ast.Is, ast.IsNot)) for op in node.ops)
                        and not (isinstance(node.comparators[0], ast.Constant)
                                 and node.comparators[0].value in (None, True, False))])

    def test_names(self):
        for source in SOURCES:
            names = [node for node in source.nodes if isinstance(node, ast.Name)]
            self.check([(source, node) for node in names if node.id in BUILTIN_NAMES - ALLOWED_BUILTINS
                        or node.id in UNUSED_NAMES])
            bound = [(node.id, node) for node in names if isinstance(node.ctx, ast.Store)]
            bound += [(node.arg, node) for node in source.nodes if isinstance(node, ast.arg)]
            bound += [(node.name, node) for node in source.defs if node.name not in DUNDER_METHODS]
            bound += [(node.name, node) for node in source.classes]
            self.check([(source, node) for name, node in bound
                        if name in BUILTIN_NAMES or not re.fullmatch(r"[A-Za-z][A-Za-z0-9_]*", name)])
            taken = set(source.imported()) | {node.name for node in source.classes}
            self.check([(source, node) for name, node in bound
                        if name in taken and not isinstance(node, ast.ClassDef)])

    def test_walked_at_once(self):
        takers = set("list tuple dict sorted sum any all enumerate zip min max".split())
        for source in SOURCES:
            walked = [node.iter for node in source.nodes if isinstance(node, (ast.For, ast.comprehension))]
            walked += [node.args[0] for node in source.nodes if isinstance(node, ast.Call) and node.args
                       and isinstance(node.func, ast.Name) and node.func.id in takers]
            # What zip itself is handed further behind are plain lists here.
            self.check([(source, node) for node in source.nodes if is_walk(node) and node not in walked])

    def test_sets(self):
        for source in SOURCES:
            held = [node.args[0] for node in source.nodes if isinstance(node, ast.Call) and len(node.args) == 1
                    and isinstance(node.func, ast.Name) and node.func.id in ("len", "sorted")]
            held += [part for node in source.nodes if isinstance(node, ast.Compare)
                     for part in [node.left] + node.comparators]
            self.check([(source, node) for node in source.nodes
                        if is_call_of(node, ("set", "frozenset")) and node not in held])
            self.check([(source, node) for node in source.nodes if isinstance(node, ast.Set)])

    def test_keywords(self):
        known = {"sorted": ("key", "reverse"), "min": ("key", "default"), "max": ("key", "default"), "sum": ("start",),
                 "enumerate": ("start",), "zip": ("strict",)}
        for source in SOURCES:
            self.check([(source, node) for node in source.nodes if isinstance(node, ast.Call) and node.keywords
                        and not (isinstance(node.func, ast.Name)
                                 and {word.arg for word in node.keywords} <= set(known.get(node.func.id, ())))])

    def test_top_lists_are_only_read(self):
        for source in SOURCES:
            kept = [target.id for node in source.tree.body if isinstance(node, ast.Assign) for target in node.targets
                    if isinstance(node.value, (ast.List, ast.Dict))]
            kept += [name for name in source.imported() if name.endswith("_CALLS")]
            read = [node.value for node in source.nodes
                    if isinstance(node, ast.Subscript) and isinstance(node.ctx, ast.Load)]
            read += [part for node in source.nodes if isinstance(node, ast.Compare) for part in node.comparators]
            self.check([(source, node) for node in source.nodes if isinstance(node, ast.Name)
                        and isinstance(node.ctx, ast.Load) and node.id in kept and node not in read])

    def test_attributes(self):
        methods = {part.name for source in SOURCES for node in source.classes for part in node.body
                   if isinstance(part, ast.FunctionDef)} - DUNDER_METHODS
        values = {node.attr for source in SOURCES for node in source.nodes
                  if isinstance(node, ast.Attribute) and isinstance(node.ctx, ast.Store)}
        self.assertEqual(methods & values, set())
        self.assertEqual((methods | values) & PYTHONS_OWN, set())
        known = methods | values | VALUE_METHODS | {"__init__"}
        for source in SOURCES:
            self.check([(source, node) for node in source.nodes
                        if isinstance(node, ast.Attribute) and node.attr not in known])


if __name__ == "__main__":
    unittest.main()
