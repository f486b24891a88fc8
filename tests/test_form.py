"""The form of the package's files: those rules of the language that can be told from one file, or from all imports."""

import ast
import builtins
import pathlib
import re
import unittest

PACKAGE = pathlib.Path(__file__).resolve().parent.parent / "buildroom"
FILES = sorted(path for path in PACKAGE.rglob("*") if "__pycache__" not in path.parts and path.is_file())
SOURCES = {path.relative_to(PACKAGE.parent).as_posix(): path.read_bytes().decode("ascii") for path in FILES}
TREES = {name: ast.parse(source) for name, source in SOURCES.items() if name.endswith(".py")}

BUILTINS = set(
    "len range enumerate zip min max sum abs sorted reversed int str bool list tuple dict set isinstance ord repr any all"
    " divmod pow getattr hasattr setattr iter next map super property staticmethod classmethod print"
    " Exception ValueError TypeError KeyError IndexError LookupError ZeroDivisionError ArithmeticError OverflowError"
    " RuntimeError NotImplementedError AttributeError StopIteration NotImplemented".split())
METHODS = set(
    "append clear copy count endswith extend find get index insert isalnum isalpha isdigit islower isspace isupper items"
    " join keys ljust lower lstrip partition pop remove replace reverse rfind rjust rpartition rsplit rstrip setdefault"
    " split splitlines startswith strip update upper values zfill bit_length add discard title capitalize swapcase"
    " casefold center expandtabs removeprefix removesuffix rindex isascii isdecimal isnumeric istitle isidentifier"
    " isprintable translate maketrans format setter".split())
LIBRARY = {
    "heapq": {"heappush", "heappop", "heapify", "heapreplace", "heappushpop"},
    "math": {"gcd", "lcm", "isqrt", "comb", "perm", "factorial"},
    "itertools": {"product", "combinations", "permutations", "chain", "accumulate", "pairwise", "islice",
                  "zip_longest"},
    "collections": {"defaultdict"},
}
BARRED_WORDS = re.compile(
    r"\b(type|typing|typing_extensions|enum|Enum|IntEnum|StrEnum|Flag|IntFlag|Generic|Protocol|ABC|ABCMeta|namedtuple"
    r"|NamedTuple|TypedDict|TYPE_CHECKING|abstractmethod|register|mro|elements|open|input|law|version_info)\b")
BARRED_NODES = (ast.Global, ast.AsyncFunctionDef, ast.AsyncFor, ast.AsyncWith, ast.Await, ast.Div, ast.MatMult)
MODULE_LEVEL = (ast.Expr, ast.ImportFrom, ast.FunctionDef, ast.ClassDef, ast.Assign)


def nodes(kind):
    """All nodes of a kind, with the name of their file."""
    return [(name, node) for name, tree in TREES.items() for node in ast.walk(tree) if isinstance(node, kind)]


def bound_names(tree):
    """All names that a file gives a meaning, wherever; no attributes and no methods."""
    names = [node.id for node in ast.walk(tree) if isinstance(node, ast.Name) and not isinstance(node.ctx, ast.Load)]
    names += [node.arg for node in ast.walk(tree) if isinstance(node, ast.arg)]
    return names + [node.name for node in tree.body if isinstance(node, (ast.FunctionDef, ast.ClassDef))]


def defined(tree):
    """The names that a file defines at module level."""
    names = [node.name for node in tree.body if isinstance(node, (ast.FunctionDef, ast.ClassDef))]
    return names + [node.targets[0].id for node in tree.body if isinstance(node, ast.Assign)]


class Form(unittest.TestCase):
    def test_files_are_plain(self):
        for name, source in SOURCES.items():
            with self.subTest(name):
                self.assertRegex(name, r"^buildroom(/[a-z][a-z0-9_]*)*/([a-z][a-z0-9_]*|__init__|__main__)\.py$")
                self.assertEqual(set(source) - set(map(chr, range(32, 127))), {"\n"} & set(source))
                self.assertLess(source.count("\n"), 400)
                self.assertLessEqual(max(map(len, source.split("\n"))), 120)

    def test_functions_are_short(self):
        for name, node in nodes(ast.FunctionDef):
            with self.subTest(f"{name} {node.name}"):
                self.assertLessEqual(node.end_lineno - node.lineno + 1, 40)

    def test_imports_name_the_file_that_defines(self):
        for name, node in nodes((ast.ImportFrom, ast.Import)):
            with self.subTest(name, line=node.lineno):
                self.assertIsInstance(node, ast.ImportFrom)
                self.assertEqual(node.level, 0)
                there = LIBRARY.get(node.module)
                if there is None:
                    there = defined(TREES[node.module.replace(".", "/") + ".py"])
                self.assertLessEqual({alias.name for alias in node.names}, set(there))

    def test_no_imports_go_round(self):
        behind = {name: set() for name in TREES}
        for name, node in nodes(ast.ImportFrom):
            if node.module not in LIBRARY:
                behind[name].add(node.module.replace(".", "/") + ".py")
        while behind:
            ready = [name for name in behind if not behind[name] & set(behind)]
            self.assertTrue(ready, behind)
            for name in ready:
                del behind[name]

    def test_module_level_is_plain(self):
        for name, tree in TREES.items():
            for number, node in enumerate(tree.body):
                with self.subTest(name, line=node.lineno):
                    self.assertIsInstance(node, MODULE_LEVEL)
                    if isinstance(node, ast.Expr):
                        self.assertEqual([number, type(node.value)], [0, ast.Constant])
                    if isinstance(node, ast.Assign):
                        self.assertEqual([type(target) for target in node.targets], [ast.Name])

    def test_names_at_module_level_are_bound_once(self):
        for name, tree in TREES.items():
            names = defined(tree)
            names += [alias.name for node in tree.body if isinstance(node, ast.ImportFrom) for alias in node.names]
            self.assertEqual(len(names), len(set(names)), name)

    def test_names_do_not_hide_others(self):
        for name, tree in TREES.items():
            imported = {alias.name for node in tree.body if isinstance(node, ast.ImportFrom) for alias in node.names}
            self.assertEqual(set(bound_names(tree)) & (set(vars(builtins)) | imported), set(), name)

    def test_builtins_and_methods_are_those_of_the_language(self):
        for name, node in nodes(ast.Name):
            if node.id in vars(builtins):
                self.assertIn(node.id, BUILTINS, f"{name} {node.lineno}")
        own = {node.name for _, node in nodes(ast.FunctionDef)}
        for name, node in nodes(ast.Call):
            if isinstance(node.func, ast.Attribute):
                self.assertIn(node.func.attr, METHODS | own, f"{name} {node.lineno}")

    def test_statements_and_values_are_those_of_the_language(self):
        for name, node in nodes((ast.stmt, ast.expr, ast.operator)):
            self.assertNotIsInstance(node, BARRED_NODES, name)
        for name, node in nodes(ast.Constant):
            self.assertNotIsInstance(node.value, (float, complex), f"{name} {node.lineno}")
            if isinstance(node.value, str):
                self.assertNotIn("%", node.value, f"{name} {node.lineno}")

    def test_any_and_all_take_lists(self):
        # A class of the package compares, so no generator expression may stand in these.
        self.assertEqual([f"{name} {node.lineno}" for name, node in nodes(ast.GeneratorExp)], [])

    def test_decorators_are_those_of_the_language(self):
        for name, node in nodes((ast.FunctionDef, ast.ClassDef)):
            for decorator in node.decorator_list:
                told = ast.unparse(decorator)
                self.assertRegex(told, r"^(property|staticmethod|classmethod|\w+\.setter)$", name)

    def test_properties_and_methods_are_no_attributes(self):
        defined_there = {node.name for _,
                         node in nodes(ast.FunctionDef) if node.args.args and node.args.args[0].arg == "self"}
        assigned = {node.attr for _, node in nodes(ast.Attribute) if not isinstance(node.ctx, ast.Load)}
        self.assertEqual(defined_there & assigned, set())

    def test_sets_are_measured_or_sorted_at_once(self):
        for name, tree in TREES.items():
            parents = {child: node for node in ast.walk(tree) for child in ast.iter_child_nodes(node)}
            for node in ast.walk(tree):
                if isinstance(node, (ast.Set, ast.SetComp)) or isinstance(node, ast.Call) and getattr(node.func, "id",
                    "") == "set":
                    around = parents[node]
                    self.assertIn(ast.unparse(around.func) if isinstance(around, ast.Call) else "", ("sorted", "len"),
                                  name)

    def test_barred_words(self):
        for name, tree in TREES.items():
            for node in ast.walk(tree):
                for field in ("id", "attr", "arg", "name"):
                    word = getattr(node, field, None)
                    if isinstance(word, str):
                        self.assertIsNone(BARRED_WORDS.search(word), f"{name} {word}")


if __name__ == "__main__":
    unittest.main()
