"""Those rules of the language (L1 to L28) that are soon looked for in the package's sources."""

import ast
import builtins
import pathlib
import re
import unittest
import warnings

PACKAGE = pathlib.Path(__file__).parent.parent / "hourcoin"
LIBRARY = {
    "heapq": {"heappush", "heappop", "heapify", "heapreplace", "heappushpop"},
    "math": {"gcd", "lcm", "isqrt", "comb", "perm", "factorial"},
    "itertools": {"product", "combinations", "permutations", "chain", "accumulate", "pairwise",
                  "islice", "zip_longest"},
    "collections": {"defaultdict", "deque"},
}
BUILTINS = set("""len range enumerate zip min max sum abs sorted reversed int str bool bytes list
    tuple dict set frozenset isinstance ord repr any all divmod pow getattr hasattr setattr iter
    next map super Exception ValueError TypeError KeyError IndexError LookupError
    ZeroDivisionError ArithmeticError OverflowError RuntimeError NotImplementedError
    AttributeError StopIteration NotImplemented property staticmethod classmethod""".split())
CAUGHT = {"KeyError", "ZeroDivisionError", "StopIteration", "ValueError", "LookupError", "IndexError"}
WORDS = re.compile(r"\b(type|typing|typing_extensions|enum|Enum|IntEnum|StrEnum|Flag|IntFlag|Generic|"
                   r"Protocol|ABC|ABCMeta|namedtuple|NamedTuple|TypedDict|TYPE_CHECKING|"
                   r"abstractmethod)\b|dataclass|overload|contextmanager")
UNUSED = {"register", "mro", "elements", "open", "input", "law", "version_info", "with_traceback",
          "add_note"}
STATEMENTS = (ast.AsyncFunctionDef, ast.AsyncFor, ast.AsyncWith, ast.Await, ast.Import, ast.Div)


def sources():
    """The package's files, each with its text and its tree."""
    for path in sorted(PACKAGE.glob("*.py")):
        text = path.read_text(encoding="utf-8")
        yield path, text, ast.parse(text)


def docstrings(tree):
    """The nodes of docstrings."""
    holders = (ast.Module, ast.ClassDef, ast.FunctionDef)
    bodies = [node.body for node in ast.walk(tree) if isinstance(node, holders)]
    return [body[0].value for body in bodies
            if body and isinstance(body[0], ast.Expr) and isinstance(body[0].value, ast.Constant)]


def names_bound(tree):
    """The names of functions' parameters and of all that is assigned or defined."""
    for node in ast.walk(tree):
        if isinstance(node, ast.arg):
            yield node.arg
        elif isinstance(node, ast.Name) and not isinstance(node.ctx, ast.Load):
            yield node.id
        elif isinstance(node, (ast.FunctionDef, ast.ClassDef)):
            yield node.name


class Files(unittest.TestCase):

    def test_the_folder_holds_sources_alone(self):
        for path in PACKAGE.rglob("*"):
            if "__pycache__" not in path.parts:
                self.assertRegex(path.name, r"\A([a-z][a-z0-9_]*|__init__|__main__)\.py\Z")
        self.assertTrue((PACKAGE / "__init__.py").is_file())

    def test_sizes_and_signs(self):
        for path, text, _ in sources():
            with self.subTest(path.name):
                self.assertRegex(text, r"\A[\n -~]*\Z")
                self.assertLess(len(text.splitlines()), 400)
                self.assertLessEqual(max(map(len, text.splitlines())), 120)

    def test_functions_are_short(self):
        for path, _, tree in sources():
            for node in ast.walk(tree):
                if isinstance(node, ast.FunctionDef):
                    self.assertLessEqual(node.end_lineno - node.lineno + 1, 40, (path.name, node.name))

    def test_python_gives_no_warning(self):
        with warnings.catch_warnings():
            warnings.simplefilter("error")
            for path, text, _ in sources():
                compile(text, str(path), "exec")


class Imports(unittest.TestCase):

    def test_from_the_very_file_that_defines(self):
        bound = {path.stem: {node.name for node in tree.body if hasattr(node, "name")}
                 | {target.id for node in tree.body if isinstance(node, ast.Assign)
                    for target in node.targets} for path, _, tree in sources()}
        for path, _, tree in sources():
            for node in ast.walk(tree):
                if isinstance(node, ast.ImportFrom):
                    self.assertIn(node, tree.body)
                    names = {one.name for one in node.names}
                    home, _, stem = node.module.partition(".")
                    wanted = bound[stem] if home == "hourcoin" else LIBRARY[node.module]
                    self.assertLessEqual(names, wanted, path.name)

    def test_no_files_import_from_each_other(self):
        left = {path.stem: {node.module.partition(".")[2] for node in tree.body
                            if isinstance(node, ast.ImportFrom)} - {""} for path, _, tree in sources()}
        while left:
            free = [stem for stem, needed in left.items() if not needed & set(left)]
            self.assertTrue(free, left)
            for stem in free:
                del left[stem]


class Names(unittest.TestCase):

    def test_builtins(self):
        barred = set(dir(builtins)) - BUILTINS
        for path, _, tree in sources():
            for node in ast.walk(tree):
                if isinstance(node, ast.Name):
                    self.assertNotIn(node.id, barred, (path.name, node.lineno))

    def test_no_name_has_another_meaning(self):
        for path, _, tree in sources():
            imported = {one.name for node in tree.body if isinstance(node, ast.ImportFrom)
                        for one in node.names}
            for name in names_bound(tree):
                with self.subTest(path=path.name, name=name):
                    self.assertNotIn(name, set(dir(builtins)) | imported | UNUSED)
                    self.assertRegex(name, r"\A(_?[A-Za-z][A-Za-z0-9_]*|_|__[a-z]+__)\Z")

    def test_words_that_do_not_occur(self):
        for path, text, tree in sources():
            lines = [re.sub(r"#.*", "", line) for line in text.splitlines()]
            for doc in docstrings(tree):
                lines[doc.lineno - 1:doc.end_lineno] = [""] * (doc.end_lineno - doc.lineno + 1)
            self.assertIsNone(WORDS.search("\n".join(lines)), path.name)


class Attributes(unittest.TestCase):

    def test_attributes_of_objects(self):
        kept = set().union(*[dir(made) for made in (0, "", b"", [], {}, set(), ())])
        allowed = {"count", "index", "title", "find", "get", "join", "lower", "upper", "split", "strip", "copy", "add"}
        assigned, methods = set(), set()
        for path, _, tree in sources():
            for made in [node for node in tree.body if isinstance(node, ast.ClassDef)]:
                own = {node.name for node in made.body if isinstance(node, ast.FunctionDef)}
                names = {node.attr for node in ast.walk(made)
                         if isinstance(node, ast.Attribute) and isinstance(node.ctx, ast.Store)}
                with self.subTest(path=path.name, made=made.name):
                    self.assertEqual(own & names, set())
                    self.assertEqual((names | own - {"__init__"}) & (kept - allowed), set())
                assigned |= names
                methods |= own
        for path, _, tree in sources():
            for node in ast.walk(tree):
                if isinstance(node, ast.Attribute):
                    self.assertIn(node.attr, assigned | methods | kept, path.name)


class Statements(unittest.TestCase):

    def test_what_is_not_used(self):
        for path, _, tree in sources():
            for node in ast.walk(tree):
                self.assertNotIsInstance(node, STATEMENTS, path.name)
                if isinstance(node, ast.Constant):
                    self.assertNotIsInstance(node.value, (float, complex), path.name)
                    self.assertNotIn("%", str(node.value), path.name)

    def test_is_stands_beside_none_and_truths(self):
        for path, _, tree in sources():
            for node in ast.walk(tree):
                if isinstance(node, ast.Compare) and isinstance(node.ops[0], (ast.Is, ast.IsNot)):
                    self.assertIsInstance(node.comparators[0], ast.Constant, path.name)
                    self.assertIn(node.comparators[0].value, (None, True, False))

    def test_errors_that_are_caught(self):
        own = set()
        for _, _, tree in sources():
            own |= {node.name for node in tree.body if isinstance(node, ast.ClassDef)}
        for path, _, tree in sources():
            for node in ast.walk(tree):
                if isinstance(node, ast.ExceptHandler):
                    kinds = node.type.elts if isinstance(node.type, ast.Tuple) else [node.type]
                    self.assertLessEqual({kind.id for kind in kinds}, own | CAUGHT, path.name)

    def test_module_level(self):
        allowed = (ast.ImportFrom, ast.FunctionDef, ast.ClassDef, ast.Assign, ast.Expr)
        for path, _, tree in sources():
            for node in tree.body:
                self.assertIsInstance(node, allowed, path.name)
                if isinstance(node, ast.Expr):
                    self.assertIn(node.value, docstrings(tree), path.name)


if __name__ == "__main__":
    unittest.main()
