"""What ../shared/LANGUAGE.md says of the package's files, where a row or a node of the code shows it by itself."""

import ast
import builtins
import io
import pathlib
import re
import tokenize
import unittest

PACKAGE = pathlib.Path(__file__).resolve().parent.parent / "doorhouse"

BUILTINS = set("""
    len range enumerate zip min max sum abs sorted reversed int str bool bytes list tuple dict set frozenset isinstance
    ord repr any all divmod super property staticmethod classmethod Exception ValueError TypeError KeyError IndexError
    LookupError ZeroDivisionError ArithmeticError OverflowError RuntimeError NotImplementedError AttributeError
    StopIteration NotImplemented
""".split())
DUNDERS = ("__init__", "__eq__", "__repr__", "__str__", "__len__", "__enter__", "__exit__", "__call__", "__iter__")
BARRED_NAMES = set("""
    register mro elements open input version_info with_traceback add_note attrgetter breakpoint builtins compile
    copyright credits delattr dir eval exec exit gc getattr globals hasattr help id importlib license locals
    methodcaller os quit setattr type vars sys
""".split())
BARRED_WORDS = re.compile(
    r"\b(type|typing|typing_extensions|enum|Enum|IntEnum|StrEnum|Flag|IntFlag|Generic|Protocol|ABC|ABCMeta|namedtuple"
    r"|NamedTuple|TypedDict|TYPE_CHECKING|abstractmethod)\b|dataclass|overload|contextmanager")
BARRED_NODES = (
    ast.Import, ast.Global, ast.AsyncFunctionDef, ast.AsyncFor, ast.AsyncWith, ast.Await, ast.Div,
    # Classes of the later stages have ==, and there a list stands where a generator expression could.
    ast.GeneratorExp,
)
BUILTIN_METHODS = set("""
    append clear copy count endswith extend find get index insert isalnum isalpha isdigit islower isspace isupper items
    join keys ljust lower lstrip partition pop remove replace reverse rfind rjust rpartition rsplit rstrip setdefault
    split splitlines startswith strip update upper values zfill bit_length title capitalize swapcase casefold center
    expandtabs removeprefix removesuffix rindex isascii isdecimal isnumeric istitle isidentifier isprintable
""".split())
TOP_NODES = (ast.ImportFrom, ast.FunctionDef, ast.ClassDef, ast.Assign)


def files():
    return sorted(PACKAGE.rglob("*.py"))


def names_bound(node):
    """Tell the names that a node gives a meaning to."""
    if isinstance(node, (ast.FunctionDef, ast.ClassDef)):
        return [node.name]
    if isinstance(node, ast.Name) and not isinstance(node.ctx, ast.Load):
        return [node.id]
    if isinstance(node, ast.arg):
        return [node.arg]
    if isinstance(node, ast.ImportFrom):
        return [alias.asname or alias.name for alias in node.names]
    if isinstance(node, ast.ExceptHandler) and node.name:
        return [node.name]
    return []


class Language(unittest.TestCase):
    def each(self):
        for file in files():
            text = file.read_text("utf-8")
            yield file, text, ast.parse(text)

    def test_files(self):
        due = {"__init__.py", "errors.py", "values.py", "routes.py", "marks.py", "templates.py", "store.py",
               "rights.py", "sites.py", "pages.py", "house.py", "lines.py", "desk.py"}
        self.assertGreaterEqual({file.name for file in files()}, due)
        for thing in PACKAGE.rglob("*"):
            if "__pycache__" not in thing.parts and not thing.is_dir():
                self.assertRegex(thing.name, r"^[a-z0-9_]+\.py$")

    def test_rows_and_signs(self):
        for file, text, _ in self.each():
            rows = text.split("\n")
            self.assertLessEqual(len(rows), 400, file)
            self.assertEqual([row for row in rows if len(row) > 120], [], file)
            self.assertEqual(re.findall(r"[^ -~\n]", text), [], file)
            self.assertIsNone(BARRED_WORDS.search(text), file)

    def test_strings(self):
        for file, text, _ in self.each():
            for token in tokenize.generate_tokens(io.StringIO(text).readline):
                if token.type == tokenize.STRING:
                    self.assertNotIn("%", token.string, file)
                    self.assertEqual(re.findall(r"\\[^nt\\\"']", token.string), [], file)

    def test_imports(self):
        for file, _, tree in self.each():
            for node in ast.walk(tree):
                if isinstance(node, ast.ImportFrom):
                    self.assertIn(node, tree.body)
                    self.assertEqual((node.level, node.module.split(".")[0]), (0, "doorhouse"), file)
                    there = PACKAGE.parent.joinpath(*node.module.split(".")).with_suffix(".py").read_text("utf-8")
                    bound = [name for row in ast.parse(there).body for part in ast.walk(row) for name in names_bound(part)
                             if not isinstance(part, ast.ImportFrom)]
                    for alias in node.names:
                        self.assertIn(alias.name, bound, file)

    def test_module_level(self):
        for file, _, tree in self.each():
            self.assertIsNotNone(ast.get_docstring(tree), file)
            self.assertEqual([node for node in tree.body[1:] if not isinstance(node, TOP_NODES)], [], file)
            bound = []
            for node in tree.body:
                bound += [target.id for target in node.targets] if isinstance(node, ast.Assign) else names_bound(node)
            self.assertEqual(len(bound), len(set(bound)), file)

    def test_nodes(self):
        for file, _, tree in self.each():
            for node in ast.walk(tree):
                self.assertNotIsInstance(node, BARRED_NODES, file)
                if isinstance(node, ast.Constant):
                    self.assertNotIsInstance(node.value, (float, complex), file)
                if isinstance(node, ast.FunctionDef):
                    self.assertLessEqual(node.end_lineno - node.lineno + 1, 40, (file, node.name))
                if isinstance(node, ast.Compare):
                    for sign, other in zip(node.ops, node.comparators):
                        if isinstance(sign, (ast.Is, ast.IsNot)):
                            self.assertTrue(isinstance(other, ast.Constant) and other.value in (None, True, False), file)

    def test_methods_and_attributes(self):
        methods, attributes, called, read = set(), set(), set(), set()
        for _, _, tree in self.each():
            for node in ast.walk(tree):
                if isinstance(node, ast.ClassDef):
                    own = [row.name for row in node.body if isinstance(row, ast.FunctionDef)]
                    self.assertEqual(len(own), len(set(own)), node.name)
                    methods.update(own)
                    others = [row for row in node.body if not isinstance(row, ast.FunctionDef)]
                    self.assertEqual(len(others), int(ast.get_docstring(node) is not None), node.name)
                if isinstance(node, ast.Call) and isinstance(node.func, ast.Attribute):
                    called.add(node.func.attr)
                if isinstance(node, ast.Attribute):
                    (read if isinstance(node.ctx, ast.Load) else attributes).add(node.attr)
        self.assertEqual(methods & attributes, set())
        self.assertLessEqual(called, methods | BUILTIN_METHODS)
        self.assertLessEqual(read - called, attributes)
        self.assertEqual((methods | attributes) & set(dir(str) + dir(list) + dir(dict) + dir(int) + dir(set) + dir(bytes)) - set(DUNDERS), set())

    def test_what_is_iterated_at_once(self):
        for file, _, tree in self.each():
            due = []
            for node in ast.walk(tree):
                if isinstance(node, (ast.For, ast.comprehension)):
                    due.append(node.iter)
                elif isinstance(node, ast.Call) and isinstance(node.func, ast.Name) and node.func.id in ("list", "tuple", "dict", "sorted"):
                    due += node.args[:1]
            for node in ast.walk(tree):
                if isinstance(node, ast.Call) and isinstance(node.func, ast.Name) and node.func.id in ("zip", "enumerate", "reversed", "range"):
                    self.assertIn(node, due, (file, node.lineno))

    def test_no_module_hangs_on_itself(self):
        needs = {}
        for file, _, tree in self.each():
            needs["doorhouse." + file.stem] = [node.module for node in tree.body if isinstance(node, ast.ImportFrom)]
        while needs:
            free = [name for name, others in needs.items() if not set(others) & set(needs)]
            self.assertNotEqual(free, [], needs)
            for name in free:
                del needs[name]

    def test_names(self):
        for file, _, tree in self.each():
            imported = [name for node in tree.body if isinstance(node, (ast.ImportFrom, ast.ClassDef))
                        for name in names_bound(node)]
            for node in ast.walk(tree):
                for name in names_bound(node):
                    dunder = name in DUNDERS and isinstance(node, ast.FunctionDef)
                    self.assertTrue(dunder or re.fullmatch(r"[A-Za-z][A-Za-z0-9_]*", name), (file, name))
                    self.assertNotIn(name, BARRED_NAMES, file)
                    self.assertNotIn(name, dir(builtins), file)
                    if not isinstance(node, (ast.ImportFrom, ast.ClassDef)):
                        self.assertNotIn(name, imported, file)
                if isinstance(node, ast.Name) and node.id in dir(builtins):
                    self.assertIn(node.id, BUILTINS, file)


if __name__ == "__main__":
    unittest.main()
