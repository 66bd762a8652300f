"""A part of the rules of the language that the package is written in.

The rules that can be read off the code without much ado stand here; the others
are for whoever reads the code.
"""

import ast
import pathlib
import tokenize
import unittest

PACKAGE = pathlib.Path(__file__).resolve().parent.parent / "latestrows"

LIBRARY = {
    "heapq": ["heappush", "heappop", "heapify", "heapreplace", "heappushpop"],
    "math": ["gcd", "lcm", "isqrt", "comb", "perm", "factorial"],
    "itertools": ["chain", "accumulate", "pairwise", "islice", "zip_longest"],
    "collections": ["defaultdict"],
    "__future__": ["annotations"],
}

BUILTINS = (
    "len range enumerate zip min max sum abs sorted reversed int str bool bytes list tuple dict set frozenset "
    "isinstance ord repr any all divmod pow getattr hasattr setattr iter next map super property staticmethod "
    "classmethod object Exception ValueError TypeError KeyError IndexError LookupError ZeroDivisionError "
    "ArithmeticError OverflowError RuntimeError NotImplementedError AttributeError StopIteration NotImplemented"
).split()

BARRED = (
    "typing typing_extensions enum Enum IntEnum StrEnum Flag IntFlag Generic Protocol ABC ABCMeta namedtuple "
    "NamedTuple TypedDict TYPE_CHECKING abstractmethod type register mro elements open input law eval exec"
).split()

BARRED_NODES = (
    ast.Global, ast.AsyncFunctionDef, ast.AsyncFor, ast.AsyncWith, ast.Await, ast.Div, ast.MatMult, ast.MatchMapping,
)


def files():
    return sorted(PACKAGE.glob("*.py"))


def trees():
    return [(path.name, ast.parse(path.read_text(encoding="utf-8"))) for path in files()]


def names_bound(tree):
    bound = []
    for node in ast.walk(tree):
        if isinstance(node, (ast.FunctionDef, ast.ClassDef)):
            bound.append(node.name)
        elif isinstance(node, ast.arg):
            bound.append(node.arg)
        elif isinstance(node, ast.Name) and isinstance(node.ctx, ast.Store):
            bound.append(node.id)
        elif isinstance(node, ast.ImportFrom):
            bound.extend(alias.asname or alias.name for alias in node.names)
    return bound


class LanguageTest(unittest.TestCase):
    def test_the_folder_holds_plain_files_alone(self):
        for path in PACKAGE.iterdir():
            if path.name != "__pycache__":
                self.assertRegex(path.name, r"^[a-z0-9_]+\.py$")

    def test_init_is_a_docstring(self):
        tree = dict(trees())["__init__.py"]
        self.assertEqual(len(tree.body), 1)
        self.assertIsNotNone(ast.get_docstring(tree))

    def test_characters_and_sizes(self):
        for path in files():
            text = path.read_bytes().decode("ascii")
            lines = text.split("\n")
            with self.subTest(path.name):
                self.assertLessEqual(len(lines), 400)
                self.assertLessEqual(max(len(line) for line in lines), 120)
                self.assertEqual([sign for sign in text if not (" " <= sign <= "~" or sign == "\n")], [])

    def test_functions_are_short(self):
        for name, tree in trees():
            for node in ast.walk(tree):
                if isinstance(node, ast.FunctionDef):
                    self.assertLessEqual(node.end_lineno - node.lineno + 1, 40, (name, node.name))

    def test_imports(self):
        for name, tree in trees():
            for node in ast.walk(tree):
                self.assertNotIsInstance(node, ast.Import, name)
                if isinstance(node, ast.ImportFrom) and not node.module.startswith("latestrows."):
                    for alias in node.names:
                        self.assertIn(alias.name, LIBRARY.get(node.module, []), name)
                        self.assertIsNone(alias.asname, name)

    def test_names_are_imported_from_the_file_that_defines_them(self):
        bound = {name: names_bound(ast.Module(body=[node for node in tree.body
                 if not isinstance(node, ast.ImportFrom)], type_ignores=[])) for name, tree in trees()}
        for name, tree in trees():
            for node in tree.body:
                if isinstance(node, ast.ImportFrom) and node.module.startswith("latestrows."):
                    for alias in node.names:
                        self.assertIn(alias.name, bound[node.module.split(".")[1] + ".py"], name)

    def test_only_known_builtins_and_none_renamed(self):
        for name, tree in trees():
            bound = names_bound(tree)
            self.assertEqual([word for word in bound if word in BUILTINS and word != "map"], [], name)
            for node in ast.walk(tree):
                if isinstance(node, ast.Name) and isinstance(node.ctx, ast.Load):
                    self.assertIn(node.id, bound + BUILTINS, name)

    def test_statements_and_numbers(self):
        for name, tree in trees():
            for node in ast.walk(tree):
                self.assertNotIsInstance(node, BARRED_NODES, name)
                if isinstance(node, ast.Constant):
                    self.assertNotIsInstance(node.value, (float, complex), name)
                if isinstance(node, ast.Constant) and isinstance(node.value, str):
                    self.assertNotIn("%", node.value, name)

    def test_words_that_are_barred(self):
        for path in files():
            with open(path, "rb") as opened:
                tokens = [token.string for token in tokenize.tokenize(opened.readline) if token.type == tokenize.NAME]
            self.assertEqual([word for word in tokens if word in BARRED], [], path.name)


if __name__ == "__main__":
    unittest.main()
