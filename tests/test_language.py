"""The rules of LANGUAGE.md that can be read off each file; their numbers stand in the tests' names."""

import ast
import pathlib
import re
import unittest

PACKAGE = pathlib.Path(__file__).resolve().parent.parent / "jarvisits"
FILES = sorted(path for path in PACKAGE.rglob("*.py"))
LIBRARY = {
    "heapq": {"heappush", "heappop", "heapify", "heapreplace", "heappushpop"},
    "math": {"gcd", "lcm", "isqrt", "comb", "perm", "factorial"},
    "itertools": {"product", "combinations", "permutations"},
}
BUILTINS = set(
    "len range enumerate zip min max sum abs sorted reversed int str bool bytes list tuple dict set frozenset "
    "isinstance ord repr any all divmod iter next map super property staticmethod classmethod print object "
    "Exception ValueError TypeError KeyError IndexError LookupError ZeroDivisionError ArithmeticError "
    "OverflowError RuntimeError NotImplementedError AttributeError StopIteration NotImplemented".split()
)
ALL_BUILTINS = set(dir(__builtins__) if not isinstance(__builtins__, dict) else __builtins__)
BARRED_EVERYWHERE = set("register mro elements open input law version_info with_traceback add_note".split())
BARRED_NAMES = set(
    "attrgetter breakpoint builtins compile copyright credits delattr dir eval exec exit gc getattr globals "
    "hasattr help id importlib license locals methodcaller os quit setattr type vars sys".split()
)
BARRED_WORDS = re.compile(
    r"\b(type|typing|typing_extensions|enum|Enum|IntEnum|StrEnum|Flag|IntFlag|Generic|Protocol|ABC|ABCMeta"
    r"|namedtuple|NamedTuple|TypedDict|TYPE_CHECKING|abstractmethod)\b|dataclass|overload|contextmanager"
)
DUNDERS = set(
    "init eq repr str len enter exit call iter lt le gt ge ne add sub mul floordiv mod pow and or xor lshift "
    "rshift neg pos invert abs bool contains getitem setitem".split()
)
DUNDER_NAMES = {f"__{name}__" for name in DUNDERS}
BARRED_STATEMENTS = (ast.Global, ast.AsyncFunctionDef, ast.AsyncFor, ast.AsyncWith, ast.Await)


def bound_names(tree):
    """All names that a file gives to something: variables, functions, classes, parameters, imports."""
    for node in ast.walk(tree):
        if isinstance(node, ast.Name) and not isinstance(node.ctx, ast.Load):
            yield node.id
        elif isinstance(node, (ast.FunctionDef, ast.ClassDef)):
            yield node.name
        elif isinstance(node, ast.arg):
            yield node.arg
        elif isinstance(node, ast.alias):
            yield node.asname or node.name
        elif isinstance(node, ast.ExceptHandler) and node.name:
            yield node.name


def docstrings(tree):
    """The nodes of the docstrings of a file."""
    owners = (ast.Module, ast.ClassDef, ast.FunctionDef)
    for node in ast.walk(tree):
        if isinstance(node, owners) and ast.get_docstring(node) is not None:
            yield node.body[0].value


def imported(tree):
    """The modules of the package from which a file imports."""
    return [node.module for node in tree.body if isinstance(node, ast.ImportFrom)]


def top_names(tree):
    """The names that a file binds at its top, but for imports."""
    for node in tree.body:
        if isinstance(node, (ast.FunctionDef, ast.ClassDef)):
            yield node.name
        elif isinstance(node, ast.Assign):
            yield node.targets[0].id


def on_each_file(check):
    """Makes a test of a check of one file, which gets its text and its tree."""
    def test(self):
        for path in FILES:
            with self.subTest(path=path.name):
                text = path.read_text(encoding="utf-8")
                check(self, text, ast.parse(text))
    return test


class Files(unittest.TestCase):
    def test_l1_l14_names_of_files(self):
        self.assertTrue((PACKAGE / "__init__.py").is_file())
        for path in PACKAGE.rglob("*"):
            if "__pycache__" not in path.parts:
                self.assertTrue(re.fullmatch(r"[a-z][a-z0-9_]*\.py|__init__\.py|__main__\.py", path.name), path)
                self.assertNotRegex(path.stem, r"^(law_.*|tests?|testing|test_.*|site|conftest|type|enum|typing)$")
                self.assertNotIn(path.stem, ALL_BUILTINS)

    @on_each_file
    def test_l10_sizes(self, text, tree):
        lines = text.splitlines()
        self.assertLessEqual(len(lines), 399)
        self.assertLessEqual(max(map(len, lines)), 120)
        for node in ast.walk(tree):
            if isinstance(node, ast.FunctionDef):
                self.assertLessEqual(node.end_lineno - node.lineno + 1, 40, node.name)

    @on_each_file
    def test_l14_characters(self, text, tree):
        self.assertRegex(text, r"\A[ -~\n]*\Z")

    @on_each_file
    def test_l17_words(self, text, tree):
        told = [range(node.lineno, node.end_lineno + 1) for node in docstrings(tree)]
        for number, line in enumerate(text.splitlines(), start=1):
            if not any(number in lines for lines in told):
                self.assertNotRegex(line.split("#")[0], BARRED_WORDS)

    @on_each_file
    def test_l27_strings(self, text, tree):
        for node in ast.walk(tree):
            if isinstance(node, ast.Constant) and isinstance(node.value, str):
                self.assertNotIn("%", node.value)
                self.assertNotRegex(node.value, r"\._+$")


class Code(unittest.TestCase):
    @on_each_file
    def test_l2_l16_imports(self, text, tree):
        for node in ast.walk(tree):
            self.assertNotIsInstance(node, ast.Import)
            if isinstance(node, ast.ImportFrom):
                self.assertIn(node, tree.body)
                self.assertEqual(node.level, 0)
                self.assertTrue(all(alias.asname is None for alias in node.names))
                self.assertLessEqual({alias.name for alias in node.names}, self.names_of(node.module))

    def names_of(self, module):
        package, _, file = module.partition(".")
        if package != "jarvisits":
            return LIBRARY.get(module, set())
        return set(top_names(ast.parse((PACKAGE / f"{file}.py").read_text(encoding="utf-8"))))

    def test_l16_no_circle_of_imports(self):
        ways = {f"jarvisits.{path.stem}": imported(ast.parse(path.read_text(encoding="utf-8"))) for path in FILES}
        done = set()
        while len(done) < len(ways):
            ready = [name for name in ways if name not in done and done.issuperset(set(ways[name]) & set(ways))]
            self.assertTrue(ready, "a circle of imports")
            done.update(ready)

    @on_each_file
    def test_l3_l15_module_level(self, text, tree):
        names = list(top_names(tree))
        self.assertEqual(len(names), len(set(names)))
        for at, node in enumerate(tree.body):
            docstring = at == 0 and isinstance(node, ast.Expr) and isinstance(node.value, ast.Constant)
            allowed = (ast.ImportFrom, ast.FunctionDef, ast.ClassDef, ast.Assign)
            self.assertTrue(docstring or isinstance(node, allowed), ast.dump(node))
            if isinstance(node, ast.Assign):
                self.assertEqual(len(node.targets), 1)
                self.assertIsInstance(node.targets[0], ast.Name)
                above = {other.name for other in tree.body[:at] if isinstance(other, ast.FunctionDef)}
                self.check_plain(node.value, above if isinstance(node.value, (ast.Tuple, ast.Dict)) else set())

    def check_plain(self, value, functions):
        """A plain value, with nothing inside that can be changed; functions that are defined above may stand in it."""
        for node in ast.walk(value):
            allowed = (ast.Constant, ast.Tuple, ast.Load, ast.Name)
            self.assertTrue(isinstance(node, allowed) or node is value, ast.dump(node))
            if isinstance(node, ast.Name):
                self.assertIn(node.id, functions)

    @on_each_file
    def test_l5_l6_statements(self, text, tree):
        for node in ast.walk(tree):
            self.assertNotIsInstance(node, BARRED_STATEMENTS)
            if isinstance(node, ast.ClassDef):
                self.assertEqual(node.decorator_list, [])
                self.assertIn(node, tree.body)

    @on_each_file
    def test_l4_l5_decorators(self, text, tree):
        methods = [node for owner in tree.body if isinstance(owner, ast.ClassDef) for node in owner.body]
        for node in ast.walk(tree):
            if isinstance(node, ast.FunctionDef) and node.decorator_list:
                self.assertIn(node, methods)
                self.assertEqual([ast.unparse(told) for told in node.decorator_list], ["property"])
                self.assertEqual([argument.arg for argument in node.args.args], ["self"])

    @on_each_file
    def test_l5_what_is_only_asked_changes_nothing(self, text, tree):
        asked = ("__len__", "__contains__", "__eq__")
        for node in ast.walk(tree):
            if isinstance(node, ast.FunctionDef) and (node.decorator_list or node.name in asked):
                self.assertIsInstance(node.body[-1], ast.Return)
                for part in ast.walk(node):
                    if isinstance(part, (ast.Attribute, ast.Subscript)):
                        self.assertIsInstance(part.ctx, ast.Load)

    @on_each_file
    def test_l6_the_ends_of_with_statements(self, text, tree):
        for node in ast.walk(tree):
            if isinstance(node, ast.FunctionDef) and node.name == "__exit__":
                self.assertEqual([argument.arg for argument in node.args.args], ["self", "kind", "value", "trace"])
                for row in node.body:
                    self.assertIsInstance(row, ast.Assign)
                    self.assertIsInstance(row.value, ast.Attribute)

    @on_each_file
    def test_l19_only_own_errors_are_caught(self, text, tree):
        own = set(top_names(ast.parse((PACKAGE / "errors.py").read_text(encoding="utf-8"))))
        for node in ast.walk(tree):
            if isinstance(node, ast.ExceptHandler):
                self.assertIsInstance(node.type, ast.Name)
                self.assertIn(node.type.id, own | {"KeyError", "ZeroDivisionError"})

    @on_each_file
    def test_l7_no_floats(self, text, tree):
        for node in ast.walk(tree):
            self.assertNotIsInstance(node, ast.Div)
            if isinstance(node, ast.Constant):
                self.assertNotIsInstance(node.value, (float, complex))

    @on_each_file
    def test_l8_l17_names_that_are_read(self, text, tree):
        for node in ast.walk(tree):
            if isinstance(node, ast.Name) and node.id in ALL_BUILTINS:
                self.assertIn(node.id, BUILTINS)
            if isinstance(node, ast.Attribute):
                self.assertNotIn(node.attr, BARRED_EVERYWHERE | {"format", "format_map"})

    @on_each_file
    def test_l12_l15_l17_names_that_are_bound(self, text, tree):
        inside = [node for owner in tree.body if isinstance(owner, ast.ClassDef) for node in owner.body]
        methods = {node.name for node in inside if isinstance(node, ast.FunctionDef)}
        for name in set(bound_names(tree)):
            self.assertRegex(name, r"\A(_?[A-Za-z][A-Za-z0-9_]*|_|__[a-z]+__)\Z")
            self.assertNotIn(name, BARRED_EVERYWHERE | BARRED_NAMES)
            if name.startswith("__"):
                self.assertIn(name.strip("_"), DUNDERS)
            if name not in methods:
                self.assertNotIn(name, ALL_BUILTINS)

    @on_each_file
    def test_l15_no_local_name_of_a_class_or_an_import(self, text, tree):
        barred = {alias.name for node in tree.body if isinstance(node, ast.ImportFrom) for alias in node.names}
        barred |= {node.name for node in tree.body if isinstance(node, ast.ClassDef)}
        for owner in ast.walk(tree):
            if isinstance(owner, ast.FunctionDef):
                self.assertFalse(barred.intersection(bound_names(owner)) - {owner.name}, owner.name)

    def test_l18_no_name_is_a_method_and_an_attribute(self):
        trees = [ast.parse(path.read_text(encoding="utf-8")) for path in FILES]
        nodes = [node for tree in trees for node in ast.walk(tree)]
        owners = [node for node in nodes if isinstance(node, ast.ClassDef)]
        methods = {node.name for owner in owners for node in owner.body if isinstance(node, ast.FunctionDef)}
        stored = {node.attr for node in nodes if isinstance(node, ast.Attribute) and isinstance(node.ctx, ast.Store)}
        self.assertEqual(methods & stored, set())
        read = {node.attr for node in nodes if isinstance(node, ast.Attribute) and isinstance(node.ctx, ast.Load)}
        self.assertLessEqual({name for name in read if name.startswith("_")}, stored | DUNDER_NAMES)

    @on_each_file
    def test_l20_is(self, text, tree):
        for node in ast.walk(tree):
            if isinstance(node, ast.Compare) and isinstance(node.ops[0], (ast.Is, ast.IsNot)):
                sides = [node.left, *node.comparators]
                self.assertTrue(any(isinstance(side, ast.Constant) for side in sides), ast.dump(node))

    @on_each_file
    def test_l24_l25_no_sorting_in_place_and_no_set_kept_by_other_means(self, text, tree):
        kept = [node.value for node in ast.walk(tree) if isinstance(node, ast.Assign)]
        calls = [node for node in ast.walk(tree) if isinstance(node, ast.Call) and isinstance(node.func, ast.Name)]
        asked = [node.args[0] for node in calls if node.func.id in ("sorted", "len")]
        compared = [side for node in ast.walk(tree) if isinstance(node, ast.Compare) for side in node.comparators]
        made = [node for node in calls if node.func.id == "set"]
        for node in ast.walk(tree):
            if isinstance(node, ast.Attribute):
                self.assertNotEqual(node.attr, "sort")
            if node in made or isinstance(node, (ast.Set, ast.SetComp)):
                self.assertIn(node, kept + asked + compared)

    @on_each_file
    def test_l7_no_generator_expressions(self, text, tree):
        # The class Browser of the document has == and len, and beside these any([..]) takes a list.
        for node in ast.walk(tree):
            self.assertNotIsInstance(node, ast.GeneratorExp)
