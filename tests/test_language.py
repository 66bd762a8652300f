"""A part of the rules of the language that the package is written in.

The rules that can be read off the code without much ado stand here; the others
are for whoever reads the code.
"""

import ast
import pathlib
import tokenize
import unittest

PACKAGE = pathlib.Path(__file__).resolve().parent.parent / "latestrows"

LIBRARY = {
    "heapq": ["heappush", "heappop", "heapify", "heapreplace", "heappushpop"],
    "math": ["gcd", "lcm", "isqrt", "comb", "perm", "factorial"],
    "itertools": ["chain", "accumulate", "pairwise", "islice", "zip_longest"],
    "collections": ["defaultdict"],
    "__future__": ["annotations"],
}

BUILTINS = (
    "len range enumerate zip min max sum abs sorted reversed int str bool bytes list tuple dict set frozenset "
    "isinstance ord repr any all divmod pow getattr hasattr setattr iter next map super property staticmethod "
    "classmethod object Exception ValueError TypeError KeyError IndexError LookupError ZeroDivisionError "
    "ArithmeticError OverflowError RuntimeError NotImplementedError AttributeError StopIteration NotImplemented"
).split()

BARRED = (
    "typing typing_extensions enum Enum IntEnum StrEnum Flag IntFlag Generic Protocol ABC ABCMeta namedtuple "
    "NamedTuple TypedDict TYPE_CHECKING abstractmethod type register mro elements open input law eval exec"
).split()

# The methods of strings, lists, dicts and sets that may be called.
METHODS = (
    "append clear copy count endswith extend find get index insert isalnum isalpha isdigit islower isspace isupper "
    "items join keys ljust lower lstrip partition pop remove replace reverse rfind rjust rpartition rsplit rstrip "
    "setdefault split splitlines startswith strip update upper values zfill bit_length removeprefix removesuffix "
    "add discard"
).split()

# What the checker needs: what claims speak of, running readers, and how it judges trees.
CHECKER = (
    "checker.py claims.py trees.py branches.py cases.py errors.py kinds.py limits.py tables.py times.py readers.py "
    "texts.py settings.py running.py"
).split()

DOUBLE_UNDERSCORE = (
    "__init__ __eq__ __repr__ __str__ __len__ __iter__ __contains__ __add__ __sub__ __or__"
).split()

BARRED_NODES = (
    ast.Global, ast.AsyncFunctionDef, ast.AsyncFor, ast.AsyncWith, ast.Await, ast.Div, ast.MatMult, ast.MatchMapping,
)


def files():
    return sorted(PACKAGE.glob("*.py"))


def trees():
    return [(path.name, ast.parse(path.read_text(encoding="utf-8"))) for path in files()]


def names_bound(tree):
    bound = []
    for node in ast.walk(tree):
        if isinstance(node, (ast.FunctionDef, ast.ClassDef)):
            bound.append(node.name)
        elif isinstance(node, ast.arg):
            bound.append(node.arg)
        elif isinstance(node, ast.Name) and isinstance(node.ctx, ast.Store):
            bound.append(node.id)
        elif isinstance(node, ast.ImportFrom):
            bound.extend(alias.asname or alias.name for alias in node.names)
    return bound


class LanguageTest(unittest.TestCase):
    def test_the_folder_holds_plain_files_alone(self):
        for path in PACKAGE.iterdir():
            if path.name != "__pycache__":
                self.assertRegex(path.name, r"^[a-z0-9_]+\.py$")

    def test_init_is_a_docstring(self):
        tree = dict(trees())["__init__.py"]
        self.assertEqual(len(tree.body), 1)
        self.assertIsNotNone(ast.get_docstring(tree))

    def test_characters_and_sizes(self):
        for path in files():
            text = path.read_bytes().decode("ascii")
            lines = text.split("\n")
            with self.subTest(path.name):
                self.assertLessEqual(len(lines), 400)
                self.assertLessEqual(max(len(line) for line in lines), 120)
                self.assertEqual([sign for sign in text if not (" " <= sign <= "~" or sign == "\n")], [])

    def test_functions_are_short(self):
        for name, tree in trees():
            for node in ast.walk(tree):
                if isinstance(node, ast.FunctionDef):
                    self.assertLessEqual(node.end_lineno - node.lineno + 1, 40, (name, node.name))

    def test_imports(self):
        for name, tree in trees():
            for node in ast.walk(tree):
                self.assertNotIsInstance(node, ast.Import, name)
                if isinstance(node, ast.ImportFrom) and not node.module.startswith("latestrows."):
                    for alias in node.names:
                        self.assertIn(alias.name, LIBRARY.get(node.module, []), name)
                        self.assertIsNone(alias.asname, name)

    def test_names_are_imported_from_the_file_that_defines_them(self):
        bound = {name: names_bound(ast.Module(body=[node for node in tree.body
                 if not isinstance(node, ast.ImportFrom)], type_ignores=[])) for name, tree in trees()}
        for name, tree in trees():
            for node in tree.body:
                if isinstance(node, ast.ImportFrom) and node.module.startswith("latestrows."):
                    for alias in node.names:
                        self.assertIn(alias.name, bound[node.module.split(".")[1] + ".py"], name)

    def test_only_known_builtins_and_none_renamed(self):
        for name, tree in trees():
            bound = names_bound(tree)
            self.assertEqual([word for word in bound if word in BUILTINS and word != "map"], [], name)
            for node in ast.walk(tree):
                if isinstance(node, ast.Name) and isinstance(node.ctx, ast.Load):
                    self.assertIn(node.id, bound + BUILTINS, name)

    def test_statements_and_numbers(self):
        for name, tree in trees():
            for node in ast.walk(tree):
                self.assertNotIsInstance(node, BARRED_NODES, name)
                if isinstance(node, ast.Constant):
                    self.assertNotIsInstance(node.value, (float, complex), name)
                if isinstance(node, ast.Constant) and isinstance(node.value, str):
                    self.assertNotIn("%", node.value, name)

    def test_methods(self):
        own = [node.name for _, tree in trees() for node in ast.walk(tree) if isinstance(node, ast.FunctionDef)]
        self.assertEqual([name for name in own if name.startswith("__") and name not in DOUBLE_UNDERSCORE], [])
        for name, tree in trees():
            for node in ast.walk(tree):
                if isinstance(node, ast.Call) and isinstance(node.func, ast.Attribute):
                    self.assertIn(node.func.attr, own + METHODS, (name, node.lineno))

    def test_attributes_are_assigned_and_are_no_methods(self):
        stored, methods, read = set(), set(), set()
        for _, tree in trees():
            for node in ast.walk(tree):
                if isinstance(node, ast.ClassDef):
                    methods |= {part.name for part in node.body if isinstance(part, ast.FunctionDef)}
                elif isinstance(node, ast.Attribute):
                    (stored if isinstance(node.ctx, ast.Store) else read).add(node.attr)
        self.assertEqual(sorted(stored & methods), [])
        self.assertEqual(sorted(read - stored - methods - set(METHODS)), [])

    def test_generator_expressions_stand_where_they_may(self):
        for name, tree in trees():
            parents = {id(child): node for node in ast.walk(tree) for child in ast.iter_child_nodes(node)}
            for node in ast.walk(tree):
                if isinstance(node, ast.GeneratorExp):
                    self.assertIn(parents[id(node)].func.id, ("list", "tuple", "dict"), (name, node.lineno))

    def test_is_stands_beside_none_true_and_false(self):
        for name, tree in trees():
            for node in ast.walk(tree):
                if isinstance(node, ast.Compare) and isinstance(node.ops[0], (ast.Is, ast.IsNot)):
                    self.assertIn(node.comparators[0].value, (None, True, False), (name, node.lineno))

    def test_texts_of_objects(self):
        for name, tree in trees():
            for node in ast.walk(tree):
                if isinstance(node, ast.FunctionDef) and node.name in ("__str__", "__repr__"):
                    given = node.body[-1].value
                    called = isinstance(given, ast.Call) and given.func.id == "str"
                    self.assertTrue(called or isinstance(given, ast.JoinedStr), (name, node.lineno))

    def test_iterations_that_are_kept_or_passed_on(self):
        places = (ast.For, ast.comprehension)
        takers = ("list", "tuple", "dict", "sorted", "sum", "enumerate", "zip")
        lazy = ["zip", "enumerate", "range"] + self.generators()
        for name, tree in trees():
            parents = {id(child): node for node in ast.walk(tree) for child in ast.iter_child_nodes(node)}
            for node in ast.walk(tree):
                called = isinstance(node, ast.Call) and getattr(node.func, "id", getattr(node.func, "attr", None))
                if called and called in lazy:
                    around = parents[id(node)]
                    iterated = isinstance(around, places) and around.iter is node
                    taken = isinstance(around, ast.Call) and getattr(around.func, "id", None) in takers
                    self.assertTrue(iterated or taken or isinstance(around, ast.YieldFrom), (name, node.lineno))

    def generators(self):
        return [node.name for _, tree in trees() for node in ast.walk(tree) if isinstance(node, ast.FunctionDef)
                and any(isinstance(part, (ast.Yield, ast.YieldFrom)) for part in ast.walk(node))]

    def test_no_files_import_from_each_other(self):
        imports = {}
        for name, tree in trees():
            imports[name] = [node.module.split(".")[1] + ".py" for node in tree.body
                             if isinstance(node, ast.ImportFrom) and node.module.startswith("latestrows.")]
        left = dict(imports)
        while left:
            free = [name for name in left if not [other for other in left[name] if other in left]]
            self.assertNotEqual(free, [], sorted(left))
            left = {name: left[name] for name in left if name not in free}

    def test_the_checker_needs_nothing_that_decides(self):
        needed, left = set(), ["checker.py"]
        sources = dict(trees())
        while left:
            name = left.pop()
            needed.add(name)
            modules = [node.module for node in sources[name].body if isinstance(node, ast.ImportFrom)]
            left += [module.split(".")[1] + ".py" for module in modules if module.split(".")[1] + ".py" not in needed]
        self.assertEqual(sorted(needed), sorted(CHECKER))

    def test_sets_that_are_written_out(self):
        for name, tree in trees():
            for node in ast.walk(tree):
                if isinstance(node, ast.Set):
                    self.assertEqual([part for part in node.elts if isinstance(part, ast.Starred)], [], name)

    def test_what_stands_behind_finally(self):
        simple = (ast.Name, ast.Attribute, ast.Tuple)
        for name, tree in trees():
            for node in ast.walk(tree):
                if isinstance(node, ast.Try) and node.finalbody:
                    self.assertEqual(node.handlers, [], (name, node.lineno))
                    for check in node.finalbody:
                        self.assertIsInstance(check, ast.If, (name, check.lineno))
                        self.assertIsInstance(check.test, ast.Compare)
                        self.assertIsInstance(check.test.ops[0], (ast.Is, ast.IsNot))
                        for part in check.body:
                            self.assertIsInstance(part, ast.Assign, (name, part.lineno))
                            self.assertIsInstance(part.value, simple, (name, part.lineno))
                            self.assertIsInstance(part.targets[0], simple, (name, part.lineno))

    def test_what_handlers_catch(self):
        own = [node.name for _, tree in trees() for node in tree.body if isinstance(node, ast.ClassDef)]
        for name, tree in trees():
            for node in ast.walk(tree):
                if isinstance(node, ast.ExceptHandler):
                    caught = node.type.elts if isinstance(node.type, ast.Tuple) else [node.type]
                    self.assertEqual([kind.id for kind in caught if kind.id not in own], [], (name, node.lineno))

    def test_module_level(self):
        """Names are assigned plain values, which contain no other names."""
        for name, tree in trees():
            for node in tree.body:
                if isinstance(node, ast.Assign):
                    inside = [part for part in ast.walk(node.value) if isinstance(part, (ast.Name, ast.Call))]
                    self.assertEqual(inside, [], (name, node.lineno))

    def test_no_generator_has_the_name_of_an_attribute(self):
        stored = {node.attr for _, tree in trees() for node in ast.walk(tree)
                  if isinstance(node, ast.Attribute) and isinstance(node.ctx, ast.Store)}
        functions = [node.name for _, tree in trees() for node in ast.walk(tree) if isinstance(node, ast.FunctionDef)]
        for generator in self.generators():
            self.assertNotIn(generator, stored)
            self.assertEqual(functions.count(generator), 1, generator)

    def test_words_that_are_barred(self):
        for path in files():
            with open(path, "rb") as opened:
                tokens = [token.string for token in tokenize.tokenize(opened.readline) if token.type == tokenize.NAME]
            self.assertEqual([word for word in tokens if word in BARRED], [], path.name)


if __name__ == "__main__":
    unittest.main()
