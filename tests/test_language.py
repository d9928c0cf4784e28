"""The rules of the language that can be checked by going through the package's files."""

import ast
import builtins
import io
import pathlib
import re
import tokenize
import unittest

PACKAGE = pathlib.Path(__file__).parent.parent / "lentblocks"

LIBRARY = {
    "heapq": "heappush heappop heapify heapreplace heappushpop",
    "math": "gcd lcm isqrt comb perm factorial",
    "itertools": "product combinations permutations chain accumulate pairwise islice zip_longest",
    "collections": "defaultdict",
}
BUILTINS = set(
    """len range enumerate zip min max sum abs sorted reversed int str bool bytes list tuple dict
    set frozenset isinstance ord repr any all divmod pow getattr hasattr setattr iter next map
    Exception ValueError TypeError KeyError IndexError LookupError ZeroDivisionError
    ArithmeticError OverflowError RuntimeError NotImplementedError AttributeError StopIteration
    NotImplemented super property staticmethod classmethod""".split()
)
METHODS = set(
    """append clear copy count endswith extend find get index insert isalnum isalpha isdigit
    islower isspace isupper items join keys ljust lower lstrip partition pop remove replace
    reverse rfind rjust rpartition rsplit rstrip setdefault split splitlines startswith strip
    update upper values zfill bit_length isascii isdecimal encode decode add discard
    __init__""".split()
)
BARRED_WORDS = set(
    """type typing typing_extensions enum Enum IntEnum StrEnum Flag IntFlag Generic Protocol ABC
    ABCMeta namedtuple NamedTuple TypedDict TYPE_CHECKING abstractmethod""".split()
)
# As names, not as strings: a request is called open.
BARRED = BARRED_WORDS | set(
    """register mro elements open input law version_info with_traceback add_note global async
    attrgetter breakpoint builtins compile copyright credits delattr dir eval exec exit gc globals
    help id importlib license locals methodcaller os quit vars sys""".split()
)
DUNDERS = set(
    """__init__ __eq__ __repr__ __str__ __len__ __enter__ __exit__ __call__ __iter__ __lt__
    __le__ __gt__ __ge__ __ne__ __contains__ __getitem__ __setitem__ __bool__""".split()
)
WHOLE_LISTS = ("any", "all", "min", "max", "sum", "sorted")
PATHS = sorted(PACKAGE.rglob("*.py"))
TREES = {path.stem: ast.parse(path.read_text()) for path in PATHS}


def nodes(kind):
    """All pairs (file, node) of this kind in the package."""
    return [
        (file, node) for file, tree in TREES.items() for node in ast.walk(tree)
        if isinstance(node, kind)
    ]


def imports_of(file):
    return [node for node in TREES[file].body if isinstance(node, ast.ImportFrom)]


def defined_in(file):
    """The names that a file itself defines at module level."""
    found = set()
    for node in TREES[file].body:
        if isinstance(node, (ast.FunctionDef, ast.ClassDef)):
            found.add(node.name)
        if isinstance(node, ast.Assign):
            found.update(target.id for target in node.targets)
    return found


class Files(unittest.TestCase):
    def test_names_and_folder(self):
        self.assertIn(PACKAGE / "__init__.py", PATHS)
        for path in PACKAGE.rglob("*"):
            if "__pycache__" not in path.parts:
                self.assertIn(path, PATHS)
                self.assertRegex(path.stem, "^([a-z][a-z0-9_]*|__init__|__main__)$")
                self.assertNotIn(path.stem, BARRED)
                self.assertFalse(path.stem[0] != "_" and hasattr(builtins, path.stem), path)

    def test_lines_and_signs(self):
        for path in PATHS:
            text = path.read_text(encoding="utf-8")
            self.assertRegex(text, "^[ -~\n]*$", path)
            self.assertLessEqual(len(text.splitlines()), 399, path)
            self.assertLessEqual(max(map(len, text.splitlines()), default=0), 120, path)

    def test_functions_are_short(self):
        for file, node in nodes(ast.FunctionDef):
            self.assertLessEqual(node.end_lineno - node.lineno + 1, 40, (file, node.name))
            for one in node.decorator_list:
                self.assertRegex(
                    ast.unparse(one), r"^(property|staticmethod|classmethod|\w+\.setter)$"
                )
            if node.name.startswith("__"):
                self.assertIn(node.name, DUNDERS)

    def test_barred_words(self):
        docstrings = {
            node.body[0].value.lineno for _, node in
            nodes((ast.Module, ast.ClassDef, ast.FunctionDef)) if ast.get_docstring(node)
        }
        for path in PATHS:
            for token in tokenize.generate_tokens(io.StringIO(path.read_text()).readline):
                if token.type == tokenize.NAME:
                    self.assertNotIn(token.string, BARRED, path)
                if token.type == tokenize.STRING and token.start[0] not in docstrings:
                    self.assertFalse(BARRED_WORDS & set(re.findall(r"\w+", token.string)), path)
                if token.type == tokenize.STRING:
                    self.assertNotIn("%", token.string, path)
            # Anywhere, as a class of the package has a __getitem__.
            for word in ("(type)", "Meta", "metaclass=", "dataclass", "overload", "contextmanager"):
                self.assertNotIn(word, path.read_text(), path)


class Statements(unittest.TestCase):
    def test_imports(self):
        self.assertEqual(nodes(ast.Import), [])
        for file, node in nodes(ast.ImportFrom):
            self.assertIn(node, TREES[file].body)
            for one in node.names:
                self.assertIsNone(one.asname)
                if node.module in LIBRARY:
                    self.assertIn(one.name, LIBRARY[node.module].split())
                else:
                    package, name = node.module.split(".")
                    self.assertEqual((package, node.level), ("lentblocks", 0))
                    self.assertIn(one.name, defined_in(name))

    def test_no_two_files_import_from_each_other(self):
        done = set()

        def go(file, above):
            self.assertNotIn(file, above)
            if file not in done:
                for node in imports_of(file):
                    if node.module not in LIBRARY:
                        go(node.module.split(".")[1], (*above, file))
                done.add(file)

        for file in TREES:
            go(file, ())

    def test_module_level(self):
        for file, tree in TREES.items():
            body = tree.body[1:] if ast.get_docstring(tree) else tree.body
            for node in body:
                self.assertIsInstance(
                    node, (ast.ImportFrom, ast.FunctionDef, ast.ClassDef, ast.Assign), file
                )

    def test_no_barred_nodes(self):
        barred = (
            ast.Global, ast.AsyncFunctionDef, ast.Await, ast.AsyncFor, ast.AsyncWith, ast.Div,
            ast.MatMult, ast.Import, ast.AnnAssign,
        )
        self.assertEqual(nodes(barred), [])
        for file, node in nodes(ast.Constant):
            self.assertNotIsInstance(node.value, (float, complex), file)
            self.assertIsNot(node.value, ..., file)

    def test_is_with_none_only(self):
        for file, node in nodes(ast.Compare):
            for sign, right in zip(node.ops, node.comparators):
                if isinstance(sign, (ast.Is, ast.IsNot)):
                    self.assertIn(ast.unparse(right), ("None", "True", "False"), file)

    def test_calls(self):
        own = {node.name for _, node in nodes(ast.FunctionDef)}
        for file, node in nodes(ast.Call):
            if isinstance(node.func, ast.Attribute):
                self.assertIn(node.func.attr, METHODS | own, file)
                continue
            self.assertIsInstance(node.func, ast.Name, file)
            name = node.func.id
            if hasattr(builtins, name):
                self.assertIn(name, BUILTINS, file)
            # A package whose classes have an __eq__ hands whole lists to these.
            if name in WHOLE_LISTS:
                for one in node.args:
                    self.assertNotIsInstance(one, ast.GeneratorExp, (file, node.lineno))

    def test_nothing_is_made_one_by_one(self):
        self.assertEqual(nodes((ast.GeneratorExp, ast.Yield, ast.YieldFrom)), [])

    def test_sets_are_only_measured(self):
        inner = [
            one for _, node in nodes(ast.Call) if isinstance(node.func, ast.Name)
            and node.func.id in ("len", "sorted") for one in node.args
        ]
        for file, node in nodes((ast.Set, ast.SetComp)):
            self.assertIn(node, inner, (file, node.lineno))

    def test_the_underscore_is_never_read(self):
        for file, node in nodes(ast.Name):
            if node.id == "_":
                self.assertIsInstance(node.ctx, ast.Store, (file, node.lineno))

    def test_what_is_imported_is_used(self):
        for file, tree in TREES.items():
            read = {node.id for node in ast.walk(tree) if isinstance(node, ast.Name)}
            for node in imports_of(file):
                for one in node.names:
                    self.assertIn(one.name, read, file)

    def test_no_list_grows_in_a_loop_over_it(self):
        changing = ("append", "extend", "insert", "pop", "remove", "clear", "update")
        for file, loop in nodes(ast.For):
            over = {node.id for node in ast.walk(loop.iter) if isinstance(node, ast.Name)}
            for row in loop.body:
                for node in ast.walk(row):
                    if isinstance(node, ast.Attribute) and node.attr in changing:
                        self.assertNotIn(ast.unparse(node.value), over, (file, node.lineno))
                    if isinstance(node, ast.Subscript) and not isinstance(node.ctx, ast.Load):
                        self.assertNotIn(ast.unparse(node.value), over, (file, node.lineno))

    def test_library_names_are_only_called(self):
        for file, tree in TREES.items():
            names = {
                one.name for node in imports_of(file) if node.module in LIBRARY
                for one in node.names
            }
            called = [node.func for node in ast.walk(tree) if isinstance(node, ast.Call)]
            for node in ast.walk(tree):
                if isinstance(node, ast.Name) and node.id in names:
                    self.assertIn(node, called, file)

    def test_names(self):
        for file, tree in TREES.items():
            taken = {one.name for node in imports_of(file) for one in node.names}
            taken |= {node.name for node in ast.walk(tree) if isinstance(node, ast.ClassDef)}
            for node in ast.walk(tree):
                name = None
                if isinstance(node, ast.arg):
                    name = node.arg
                if isinstance(node, ast.Name) and isinstance(node.ctx, ast.Store):
                    name = node.id
                if name is not None:
                    self.assertNotIn(name, taken, file)
                    self.assertFalse(hasattr(builtins, name), (file, name))
                if isinstance(node, (ast.FunctionDef, ast.ClassDef)) and node in tree.body:
                    self.assertFalse(hasattr(builtins, node.name), (file, node.name))


class Classes(unittest.TestCase):
    def test_attributes_and_methods_have_names_of_their_own(self):
        methods = {
            one.name for _, node in nodes(ast.ClassDef) for one in node.body
            if isinstance(one, ast.FunctionDef)
        }
        assigned = {
            node.attr for _, node in nodes(ast.Attribute) if isinstance(node.ctx, ast.Store)
        }
        self.assertEqual(methods & assigned, set())
        for name in methods | assigned:
            if not name.startswith("__"):
                for kind in (str, int, list, tuple, dict, set, bytes):
                    self.assertFalse(hasattr(kind, name), name)
        # What is read of an object is a method, an attribute that is assigned, or a builtin one.
        for file, node in nodes(ast.Attribute):
            self.assertIn(node.attr, methods | assigned | METHODS, (file, node.lineno))

    def test_bases(self):
        for file, node in nodes(ast.ClassDef):
            self.assertEqual(node.decorator_list + node.keywords, [])
            self.assertEqual(len(node.bases), 1 if file == "errors" else 0, node.name)
            for one in node.body:
                self.assertTrue(
                    isinstance(one, ast.FunctionDef) or ast.get_docstring(node) and one is node.body[0])

    def test_an_iter_raises_only(self):
        for file, node in nodes(ast.ClassDef):
            own = {one.name: one for one in node.body if isinstance(one, ast.FunctionDef)}
            self.assertEqual("__getitem__" in own, "__iter__" in own, node.name)
            if "__iter__" in own:
                self.assertRegex(
                    ast.unparse(own["__iter__"].body), r"^raise TypeError\('[a-z ]+'\)$")

    def test_what_is_asked_changes_nothing(self):
        for file, node in nodes(ast.ClassDef):
            for one in node.body:
                if not isinstance(one, ast.FunctionDef):
                    continue
                asking = one.decorator_list or one.name.startswith("__")
                if asking and one.name != "__init__":
                    for inner in ast.walk(one):
                        self.assertNotIsInstance(inner, (ast.Assign, ast.AugAssign, ast.Delete))
                        if isinstance(inner, ast.Expr):
                            self.assertIsInstance(inner.value, ast.Constant)


class Doing(unittest.TestCase):
    def test_a_statement_by_itself_is_a_call(self):
        for file, node in nodes(ast.Expr):
            self.assertTrue(
                isinstance(node.value, ast.Call) or isinstance(node.value, ast.Constant)
                and isinstance(node.value.value, str), (file, node.lineno))

    def test_only_own_errors_are_caught(self):
        own = defined_in("errors")
        for file, node in nodes(ast.ExceptHandler):
            self.assertIn(ast.unparse(node.type), own, (file, node.lineno))
            self.assertIsNone(node.name)

    def test_what_is_raised_is_made_there(self):
        own = defined_in("errors") | {"TypeError"}
        for file, node in nodes(ast.Raise):
            self.assertIsInstance(node.exc, ast.Call, (file, node.lineno))
            self.assertIn(ast.unparse(node.exc.func), own)
            self.assertIsNone(node.cause)


if __name__ == "__main__":
    unittest.main()
