"""The rules of the language that can be seen file by file; the numbers are those of the rules."""

import ast
import builtins
import re
import unittest
from pathlib import Path

PACKAGE = Path(__file__).resolve().parent.parent / "oneservesall"
LIBRARY = {
    "math": {"gcd", "lcm", "isqrt", "comb", "perm", "factorial"},
    "heapq": {"heappush", "heappop", "heapify", "heapreplace", "heappushpop"},
    "itertools": {"product", "combinations", "permutations", "chain", "accumulate", "pairwise", "islice", "zip_longest"},
    "collections": {"defaultdict", "deque"},
}
BUILTINS = set("""len range enumerate zip min max sum abs sorted reversed int str bool list tuple dict set isinstance ord
    repr any all divmod map iter next type Exception ValueError TypeError KeyError IndexError LookupError
    ZeroDivisionError ArithmeticError OverflowError RuntimeError NotImplementedError property staticmethod
    classmethod super""".split())
# Python's own console, and so doctest, keeps its last answer there.
TAKEN = set(dir(builtins)) - {"_"}
METHODS = set("""append clear copy count endswith extend find get index insert isalnum isalpha isdigit islower isspace
    isupper items join keys ljust lower lstrip partition pop remove replace reverse rfind rjust rpartition rsplit rstrip
    setdefault split splitlines startswith strip update upper values zfill bit_length add discard sort""".split())
MODULE_LEVEL = (ast.Import, ast.ImportFrom, ast.FunctionDef, ast.ClassDef, ast.Assign, ast.Expr)
BARRED_NODES = (ast.AsyncFunctionDef, ast.AsyncFor, ast.AsyncWith, ast.Await, ast.Div, ast.MatMult)
BARRED_NAMES = set("""register mro elements open input law version_info with_traceback add_note attrgetter breakpoint
    compile copyright delattr dir eval exec exit gc globals help id importlib license locals methodcaller os quit vars
    sys""".split())
BARRED_WORDS = re.compile(
    r"\b(typing|enum|Enum|Flag|Generic|Protocol|ABC|namedtuple|NamedTuple|TypedDict|abstractmethod|_wall|_WallAttr)\b"
    r"|dataclass|overload|contextmanager"
)


def files():
    return sorted(PACKAGE.glob("*.py"))


def parsed(path):
    return ast.parse(path.read_text("ascii"), path.name)


def nodes(tree, kinds):
    return [node for node in ast.walk(tree) if isinstance(node, kinds)]


def bound_names(tree):
    for node in ast.walk(tree):
        if isinstance(node, ast.Name) and not isinstance(node.ctx, ast.Load):
            yield node.id
        elif isinstance(node, ast.arg):
            yield node.arg


def top_names(tree):
    for node in tree.body:
        if isinstance(node, (ast.FunctionDef, ast.ClassDef)):
            yield node.name
        elif isinstance(node, ast.Assign):
            yield from (target.id for target in node.targets)
        elif isinstance(node, ast.ImportFrom):
            yield from (alias.name for alias in node.names)


class LanguageTest(unittest.TestCase):
    def each(self):
        self.assertTrue(files())
        return [(path, parsed(path)) for path in files()]

    def test_l1_l14_plain_files(self):
        self.assertTrue((PACKAGE / "__init__.py").is_file())
        for path in PACKAGE.rglob("*"):
            if "__pycache__" not in path.parts:
                self.assertRegex(path.name, r"^(__init__|[a-z][a-z0-9_]*)\.py$")
                self.assertTrue(set(path.read_bytes()) <= {10, *range(32, 127)}, path.name)

    def test_l2_l16_imports(self):
        for path, tree in self.each():
            self.assertFalse(nodes(tree, ast.Import))
            for node in nodes(tree, ast.ImportFrom):
                self.assertEqual((node.level, [a.name for a in node.names if a.asname]), (0, []))
                self.assertIn(node, tree.body)
                names = {a.name for a in node.names}
                if node.module in LIBRARY:
                    self.assertTrue(names <= LIBRARY[node.module])
                    continue
                package, file = node.module.split(".")
                self.assertEqual(package, "oneservesall")
                other = parsed(PACKAGE / f"{file}.py")
                defined = [n for n in other.body if not isinstance(n, ast.ImportFrom)]
                self.assertTrue(names <= set(top_names(ast.Module(defined, []))), (node.module, names))

    def test_l3_l15_module_level(self):
        for path, tree in self.each():
            for at, node in enumerate(tree.body):
                self.assertIsInstance(node, MODULE_LEVEL)
                if isinstance(node, ast.Expr):
                    self.assertEqual(at, 0)
                    self.assertIsInstance(node.value, ast.Constant)
            names = list(top_names(tree))
            self.assertEqual(sorted(names), sorted(set(names)))

    def test_l7_no_floats_and_nothing_barred(self):
        for path, tree in self.each():
            self.assertFalse(nodes(tree, BARRED_NODES))
            for node in nodes(tree, ast.Constant):
                self.assertNotIsInstance(node.value, (float, complex))
            for node in nodes(tree, ast.Pow):
                self.fail("an exponent")

    def test_l8_builtins(self):
        for path, tree in self.each():
            for node in nodes(tree, ast.Name):
                if node.id in TAKEN:
                    self.assertIn(node.id, BUILTINS)

    def test_l10_sizes(self):
        for path, tree in self.each():
            lines = path.read_text("ascii").split("\n")
            self.assertLessEqual(len(lines), 399)
            self.assertLessEqual(max(map(len, lines)), 120)
            for node in nodes(tree, ast.FunctionDef):
                self.assertLessEqual(node.end_lineno - node.lineno + 1, 40, node.name)

    def test_l12_l15_l17_names(self):
        for path, tree in self.each():
            taken = {n.name for n in tree.body if isinstance(n, ast.ClassDef)}
            taken |= {a.name for n in nodes(tree, ast.ImportFrom) for a in n.names}
            for node in tree.body:
                if isinstance(node, (ast.FunctionDef, ast.ClassDef)):
                    self.assertFalse(taken & set(bound_names(node)), node.name)
            own = set(bound_names(tree)) | set(top_names(tree))
            self.assertFalse(own & TAKEN)
            words = own | {n.attr for n in nodes(tree, ast.Attribute)}
            self.assertFalse(words & BARRED_NAMES)
            for name in words:
                self.assertRegex(name, r"^(_|_?[A-Za-z][A-Za-z0-9_]*)$")
            self.assertIsNone(BARRED_WORDS.search(path.read_text("ascii")))
            self.assertFalse([n for n in nodes(tree, ast.Name) if n.id == "_" and isinstance(n.ctx, ast.Load)])

    def test_l4_l5_decorators_are_properties_that_share_no_name(self):
        properties, others = [], set()
        for path, tree in self.each():
            for node in nodes(tree, ast.FunctionDef):
                marks = [mark.id for mark in node.decorator_list]
                self.assertLessEqual(set(marks), {"property"}, node.name)
                if marks:
                    properties.append(node.name)
                    self.assertIsInstance(node.body[-1], ast.Return)
            for node in nodes(tree, ast.ClassDef):
                self.assertFalse(node.decorator_list)
                methods = {n.name for n in node.body if isinstance(n, ast.FunctionDef) and not n.decorator_list}
                stored = {n.attr for n in nodes(node, ast.Attribute) if isinstance(n.ctx, ast.Store)}
                self.assertFalse(methods & stored)
                others |= methods | stored
        self.assertEqual(len(properties), len(set(properties)))
        self.assertFalse(set(properties) & others)

    def test_l19_l20_errors_and_is(self):
        for path, tree in self.each():
            for node in nodes(tree, ast.Raise):
                self.assertIsInstance(node.exc, ast.Call)
                self.assertIsInstance(node.exc.func, ast.Name)
            for node in nodes(tree, ast.Compare):
                for sign, side in zip(node.ops, node.comparators):
                    if isinstance(sign, (ast.Is, ast.IsNot)):
                        self.assertIsInstance(side, ast.Constant)

    def test_l24_no_sets(self):
        for path, tree in self.each():
            self.assertFalse(nodes(tree, (ast.Set, ast.SetComp)))

    def test_l25_methods(self):
        own = {node.name for path in files() for node in nodes(parsed(path), ast.FunctionDef)}
        for path, tree in self.each():
            for node in nodes(tree, ast.Call):
                if isinstance(node.func, ast.Attribute):
                    self.assertIn(node.func.attr, METHODS | own)

    def test_l7_stars_of_calls_stand_before_plain_things(self):
        for path, tree in self.each():
            for node in nodes(tree, ast.Call):
                for told in node.args:
                    if isinstance(told, ast.Starred):
                        self.assertIsInstance(told.value, (ast.Name, ast.Attribute))

    def test_l27_strings(self):
        for path, tree in self.each():
            for node in nodes(tree, ast.Constant):
                if isinstance(node.value, str):
                    self.assertNotIn("%", node.value)

    def test_what_is_for_callers_says_what_it_does(self):
        for path, tree in self.each():
            self.assertTrue(ast.get_docstring(tree), path.name)
            for node in tree.body:
                if isinstance(node, (ast.FunctionDef, ast.ClassDef)) and not node.name.startswith("_"):
                    self.assertTrue(ast.get_docstring(node), node.name)


if __name__ == "__main__":
    unittest.main()
