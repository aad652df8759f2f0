"""The rules of LANGUAGE.md that can be seen in the files of the package one by one."""

import ast
import builtins
import re
import unittest
import warnings
from pathlib import Path

import huewalks

FOLDER = Path(huewalks.__file__).resolve().parent

# Without product and its kin, which do not stand beside a class that is iterated over and has a length.
LIBRARY = {
    "heapq": ("heappush", "heappop", "heapify", "heapreplace", "heappushpop"),
    "math": ("gcd", "lcm", "isqrt", "comb", "perm", "factorial"),
    "itertools": ("chain", "accumulate", "pairwise", "islice", "zip_longest"),
    "collections": ("defaultdict", "deque"),
}

BUILTINS = """
    len range enumerate zip min max sum abs sorted reversed int str bool bytes list tuple dict set frozenset
    isinstance ord repr any all divmod pow getattr hasattr setattr type iter next map property staticmethod
    classmethod super object float print Exception ValueError TypeError KeyError IndexError LookupError
    ZeroDivisionError ArithmeticError OverflowError RuntimeError NotImplementedError AttributeError StopIteration
    NotImplemented True False None
""".split()

METHODS_OF_DOUBLE_UNDERSCORES = """
    init eq repr str len enter exit call iter lt le gt ge ne neg pos invert abs bool contains getitem setitem
    add sub mul floordiv mod pow and or xor lshift rshift radd rsub rmul rfloordiv rmod rand ror rxor rlshift rrshift
    iadd isub imul ifloordiv imod ipow iand ior ixor ilshift irshift
""".split()

STATEMENTS = (
    ast.FunctionDef, ast.ClassDef, ast.Return, ast.Delete, ast.Assign, ast.AugAssign, ast.AnnAssign, ast.For,
    ast.While, ast.If, ast.With, ast.Match, ast.Raise, ast.Try, ast.Assert, ast.ImportFrom, ast.Import, ast.Global,
    ast.Nonlocal, ast.Expr, ast.Pass, ast.Break, ast.Continue,
)

BARRED_WORDS = """
    typing typing_extensions enum Enum IntEnum StrEnum Flag IntFlag Generic Protocol ABC ABCMeta namedtuple
    NamedTuple TypedDict TYPE_CHECKING abstractmethod dataclass
""".split()

BARRED_NAMES = "mro elements open input law version_info with_traceback add_note register".split()

BARRED_PREFIXES = "_wall _pe_ _dcw_ _enum_ _cm_ _twin_re_ _lay_ _law_ _stub_ _sre".split()

METHODS_OF_BUILTINS = """
    append clear copy count endswith extend find get index insert isalnum isalpha isdigit islower isspace isupper
    items join keys ljust lower lstrip partition pop remove replace reverse rfind rjust rpartition rsplit rstrip
    setdefault split splitlines startswith strip update upper values zfill bit_length isascii isdecimal
""".split()

KEYWORDS_OF_BUILTINS = {
    "sorted": ["key", "reverse"], "min": ["key", "default"], "max": ["key", "default"], "sum": ["start"],
    "enumerate": ["start"], "zip": ["strict"],
}

ITERATED = ("range", "zip", "enumerate", "reversed", "items", "keys", "values")

ITERATING = "list tuple dict sorted sum any all enumerate zip min max len reversed".split()


# Methods that may change something; what the other double-underscore methods run may not.
CHANGING = ("__init__", "__setitem__", "__call__", "__enter__", "__exit__")

FOLDING = ("any", "all", "sum", "min", "max", "sorted")

NAMED_BUILTINS = "object id format credits license copyright quit callable complex ascii oct memoryview".split()


class LanguageTest(unittest.TestCase):

    @classmethod
    def setUpClass(cls):
        cls.paths = sorted(FOLDER.rglob("*.py"))
        cls.texts = {path: path.read_text(encoding="utf-8") for path in cls.paths}
        cls.trees = {path: ast.parse(text) for path, text in cls.texts.items()}

    def nodes(self, *kinds):
        for path, tree in self.trees.items():
            for node in ast.walk(tree):
                if isinstance(node, kinds):
                    yield path.name, node

    def test_l1_l14_files(self):
        self.assertIn(FOLDER / "__init__.py", self.paths)
        self.assertLessEqual(len(self.paths), 100)
        for path in FOLDER.rglob("*"):
            if "__pycache__" in path.parts:
                continue
            self.assertTrue(path.is_dir() or path in self.paths, path)
            self.assertRegex(path.name, r"^[a-z0-9_]+(\.py)?$")
            self.assertFalse(path.name.startswith("test"), path)
            self.assertNotIn(path.stem, dir(builtins))

    def test_l10_l14_size_and_characters(self):
        for path, text in self.texts.items():
            lines = text.split("\n")
            self.assertLessEqual(len(lines) - 1, 399, path)
            for number, line in enumerate(lines, 1):
                self.assertLessEqual(len(line), 120, (path, number))
            self.assertEqual([sign for sign in text if sign != "\n" and not " " <= sign <= "~"], [], path)

    def test_l10_functions(self):
        for name, node in self.nodes(ast.FunctionDef):
            self.assertLessEqual(node.end_lineno - node.lineno + 1, 40, (name, node.name))

    def test_l2_l16_imports(self):
        for path, tree in self.trees.items():
            for node in ast.walk(tree):
                if isinstance(node, ast.Import):
                    self.assertEqual((path.name, [alias.name for alias in node.names]), ("__main__.py", ["sys"]))
                if isinstance(node, ast.ImportFrom):
                    self.check_import(path, tree, node)

    def check_import(self, path, tree, node):
        self.assertIn(node, tree.body, path)
        self.assertEqual(node.level, 0, path)
        names = [alias.name for alias in node.names]
        self.assertNotIn("*", names)
        if node.module == "__future__":
            return
        if node.module in LIBRARY:
            self.assertEqual([name for name in names if name not in LIBRARY[node.module]], [], path)
            return
        words = node.module.split(".")
        self.assertEqual(words[0], "huewalks", path)
        named = FOLDER.joinpath(*words[1:]).with_suffix(".py")
        self.assertIn(named, self.trees, path)
        for name in names:
            self.assertIn(name, defined_names(self.trees[named]), (path, name))

    def test_l16_no_files_import_from_each_other(self):
        reached = {}
        for path, tree in self.trees.items():
            reached[path.stem] = {
                node.module.split(".")[-1] for node in ast.walk(tree)
                if isinstance(node, ast.ImportFrom) and node.module.startswith("huewalks.")
            }
        for _ in reached:
            for name in reached:
                for other in sorted(reached[name]):
                    reached[name] |= reached.get(other, set())
        self.assertEqual([name for name in reached if name in reached[name]], [])

    def test_l3_module_level(self):
        for path, tree in self.trees.items():
            for i, node in enumerate(tree.body):
                docstring = i == 0 and isinstance(node, ast.Expr) and isinstance(node.value, ast.Constant)
                plain = isinstance(node, (ast.ImportFrom, ast.FunctionDef, ast.ClassDef, ast.Assign, ast.AnnAssign))
                self.assertTrue(docstring or plain or path.name == "__main__.py", (path, node.lineno))
                if isinstance(node, ast.Assign):
                    self.assertEqual([type(target) for target in node.targets], [ast.Name], path)

    def test_l3_plain_values(self):
        for path, tree in self.trees.items():
            for node in tree.body:
                if isinstance(node, (ast.Assign, ast.AnnAssign)):
                    self.check_plain(path, tree, node)

    def check_plain(self, path, tree, node):
        if not isinstance(node.value, ast.Dict):
            ast.literal_eval(node.value)
            return
        above = [part.name for part in tree.body if isinstance(part, ast.FunctionDef) and part.lineno < node.lineno]
        for key, value in zip(node.value.keys, node.value.values):
            ast.literal_eval(key)
            if isinstance(value, ast.Name):
                self.assertIn(value.id, above, (path, node.lineno))
            else:
                ast.literal_eval(value)

    def test_l23_iterated_at_once(self):
        for path, tree in self.trees.items():
            held = []
            for node in ast.walk(tree):
                if isinstance(node, (ast.For, ast.comprehension)):
                    held.append(node.iter)
                if isinstance(node, ast.Call) and called_name(node) in ITERATING:
                    held += node.args[:1] if called_name(node) != "zip" else node.args
                if isinstance(node, ast.Compare):
                    held += node.comparators
            for node in ast.walk(tree):
                if isinstance(node, ast.Call) and called_name(node) in ITERATED:
                    self.assertIn(node, held, (path.name, node.lineno))

    def test_l22_keywords_of_builtins(self):
        for name, node in self.nodes(ast.Call):
            if called_name(node) in dir(builtins):
                allowed = KEYWORDS_OF_BUILTINS.get(called_name(node), [])
                self.assertEqual([word.arg for word in node.keywords if word.arg not in allowed], [], name)

    def test_l25_methods(self):
        own = [node.name for _, node in self.nodes(ast.FunctionDef)]
        for name, node in self.nodes(ast.Call):
            if isinstance(node.func, ast.Attribute):
                self.assertIn(node.func.attr, own + METHODS_OF_BUILTINS, (name, node.lineno))

    def test_l23_loops_do_not_change_what_they_iterate_over(self):
        for name, node in self.nodes(ast.For):
            for part in ast.walk(node):
                if isinstance(part, ast.Call) and isinstance(part.func, ast.Attribute):
                    if part.func.attr in ("append", "pop", "extend", "insert", "clear", "remove", "update"):
                        self.assertNotEqual(ast.unparse(part.func.value), ast.unparse(node.iter), (name, part.lineno))

    def test_l15_one_binding_for_each_name(self):
        for path, tree in self.trees.items():
            names = defined_names(tree)
            for node in tree.body:
                if isinstance(node, ast.ImportFrom):
                    names += [alias.asname or alias.name for alias in node.names]
            self.assertEqual(len(names), len(set(names)), path)

    def test_l4_l5_decorators_and_methods(self):
        for name, node in self.nodes(ast.FunctionDef):
            for decorator in node.decorator_list:
                text = ast.unparse(decorator)
                told = text in ("property", "staticmethod", "classmethod") or text == node.name + ".setter"
                self.assertTrue(told, (name, text))
            if node.name.startswith("__"):
                self.assertIn(node.name.strip("_"), METHODS_OF_DOUBLE_UNDERSCORES, name)
        for name, node in self.nodes(ast.ClassDef):
            self.assertEqual((node.decorator_list, node.keywords), ([], []), name)

    def test_l6_statements(self):
        for name, node in self.nodes(ast.stmt):
            self.assertIsInstance(node, STATEMENTS, (name, node.lineno))
        for name, node in self.nodes(ast.ExceptHandler):
            self.assertIsNotNone(node.type, (name, node.lineno))

    def test_l7_no_float_and_no_division(self):
        for name, node in self.nodes(ast.Constant):
            self.assertNotIsInstance(node.value, (float, complex), (name, node.lineno))
        for name, node in self.nodes(ast.Div):
            self.fail(name)

    def test_l5_operators_and_properties_change_no_object(self):
        for name, node in self.nodes(ast.FunctionDef):
            sign = node.name.startswith("__") and node.name not in CHANGING
            if not sign and "property" not in [ast.unparse(decorator) for decorator in node.decorator_list]:
                continue
            for part in ast.walk(node):
                stored = isinstance(getattr(part, "ctx", None), (ast.Store, ast.Del))
                self.assertFalse(stored and not isinstance(part, (ast.Name, ast.Tuple)), (name, node.name))
                self.assertNotIsInstance(part, ast.AugAssign, (name, node.name))

    def test_l7_lists_instead_of_generator_expressions(self):
        # The package has classes with __eq__ and with operators.
        for name, node in self.nodes(ast.Call):
            if isinstance(node.func, ast.Name) and node.func.id in FOLDING:
                self.assertEqual([part for part in node.args if isinstance(part, ast.GeneratorExp)], [], name)

    def test_l24_sets(self):
        for name, tree in [(path.name, tree) for path, tree in self.trees.items()]:
            held = [part for node in ast.walk(tree) for part in self.set_places(node)]
            for node in ast.walk(tree):
                made = isinstance(node, ast.Call) and isinstance(node.func, ast.Name) and node.func.id == "set"
                if made or isinstance(node, (ast.Set, ast.SetComp)):
                    self.assertIn(node, held, (name, node.lineno))

    def set_places(self, node):
        if isinstance(node, ast.Call) and isinstance(node.func, ast.Name) and node.func.id in ("sorted", "len"):
            return node.args[:1]
        if isinstance(node, ast.Compare):
            return node.comparators
        if isinstance(node, ast.Assign) and isinstance(node.targets[0], ast.Name):
            return [node.value]
        return []

    def test_l15_local_names(self):
        for path, tree in self.trees.items():
            taken = [node.name for node in tree.body if isinstance(node, ast.ClassDef)]
            taken += [alias.name for node in tree.body if isinstance(node, ast.ImportFrom) for alias in node.names]
            # Examples that run in the same process leave a builtin called _ behind.
            taken += [name for name in dir(builtins) if name not in NAMED_BUILTINS and name != "_"]
            for node in ast.walk(tree):
                if isinstance(node, ast.Name) and isinstance(node.ctx, ast.Store):
                    self.assertNotIn(node.id, taken, (path.name, node.lineno))
                if isinstance(node, ast.arg):
                    self.assertNotIn(node.arg, taken, (path.name, node.lineno))

    def test_l27_exponents(self):
        for name, node in self.nodes(ast.BinOp, ast.AugAssign):
            if isinstance(node.op, ast.Pow):
                self.assertIsInstance(node.right, ast.Constant, (name, node.lineno))

    def test_l8_builtins(self):
        for name, node in self.nodes(ast.Name):
            if isinstance(node.ctx, ast.Load) and node.id in dir(builtins):
                self.assertIn(node.id, BUILTINS, (name, node.lineno))

    def test_l20_is_stands_beside_none_true_and_false(self):
        for name, node in self.nodes(ast.Compare):
            for sign, right in zip(node.ops, node.comparators):
                if isinstance(sign, (ast.Is, ast.IsNot)) and not isinstance(node.left, ast.Name):
                    self.assertIsInstance(right, ast.Constant, (name, node.lineno))

    def test_l17_l27_words_and_strings(self):
        for name, node in self.nodes(ast.Name, ast.FunctionDef, ast.ClassDef, ast.arg, ast.Attribute):
            word = getattr(node, "id", None) or getattr(node, "name", None) or getattr(node, "arg", None)
            self.assertNotIn(word or node.attr, BARRED_NAMES + BARRED_WORDS, (name, node.lineno))
        for path, tree in self.trees.items():
            docstrings = [ast.get_docstring(node, clean=False) for node in ast.walk(tree)
                          if isinstance(node, (ast.Module, ast.ClassDef, ast.FunctionDef))]
            for node in ast.walk(tree):
                if isinstance(node, ast.Constant) and isinstance(node.value, str) and node.value not in docstrings:
                    self.assertNotIn("%", node.value, path)

    def test_l19_own_errors_are_raised_on_the_spot(self):
        for name, node in self.nodes(ast.Raise):
            if node.exc is not None:
                self.assertIsInstance(node.exc, ast.Call, (name, node.lineno))
                self.assertIsInstance(node.exc.func, ast.Name, (name, node.lineno))

    def test_l27_no_line_with_a_warning(self):
        for path, text in self.texts.items():
            with warnings.catch_warnings():
                warnings.simplefilter("error")
                compile(text, str(path), "exec")

    def test_l12_names(self):
        for name, node in self.nodes(ast.Name, ast.arg):
            word = node.id if isinstance(node, ast.Name) else node.arg
            self.assertTrue(re.fullmatch(r"_|_?[A-Za-z][A-Za-z0-9_]*|__name__", word), (name, word))
            self.assertFalse(word.startswith(tuple(BARRED_PREFIXES)), (name, word))
            if word == "_" and isinstance(node, ast.Name):
                self.assertIsInstance(node.ctx, ast.Store, name)
        for name, node in self.nodes(ast.FunctionDef, ast.ClassDef):
            self.assertFalse(node.name.startswith(tuple(BARRED_PREFIXES)), (name, node.name))


def called_name(node):
    """The bare name or the method that a call names."""
    return node.func.id if isinstance(node.func, ast.Name) else getattr(node.func, "attr", None)


def defined_names(tree):
    """The names that a file defines at module level."""
    names = []
    for node in tree.body:
        if isinstance(node, (ast.FunctionDef, ast.ClassDef)):
            names.append(node.name)
        if isinstance(node, ast.Assign):
            names += [target.id for target in node.targets]
        if isinstance(node, ast.AnnAssign):
            names.append(node.target.id)
    return names


if __name__ == "__main__":
    unittest.main()
