"""The package keeps to the subset of Python that it is written in, as far as its text shows this plainly."""

import ast
import builtins
import pathlib
import re
import unittest

ROOT = pathlib.Path(__file__).resolve().parent.parent / "tangentrows"
FILES = sorted(ROOT.rglob("*.py"))
LIBRARY = {"math": {"gcd", "lcm", "isqrt", "comb", "perm", "factorial"}, "heapq": {"heappush", "heappop", "heapify"}}
BUILTINS = set("""len range enumerate zip min max sum abs sorted reversed int str bool list tuple dict set isinstance ord repr any all
    divmod iter next map Exception ValueError TypeError KeyError IndexError LookupError ZeroDivisionError ArithmeticError OverflowError
    RuntimeError NotImplementedError NotImplemented property classmethod staticmethod""".split())
METHODS = set("""append clear copy count endswith extend find get index insert isalnum isalpha isdigit islower isspace isupper items
    join keys ljust lower lstrip partition pop remove replace reverse rfind rjust rpartition rsplit rstrip setdefault split splitlines
    startswith strip update upper values zfill bit_length""".split())
BARRED = set("register mro elements open input law version_info with_traceback add_note".split())
WORDS = set("""type typing typing_extensions enum Enum IntEnum StrEnum Flag IntFlag Generic Protocol ABC ABCMeta namedtuple NamedTuple
    TypedDict TYPE_CHECKING abstractmethod""".split())
DUNDERS = set("""__init__ __eq__ __repr__ __str__ __len__ __enter__ __exit__ __call__ __iter__ __add__ __sub__ __mul__ __or__ __neg__
    __bool__ __contains__ __getitem__ __enter__ __exit__""".split())
NODES = (ast.Global, ast.AsyncFunctionDef, ast.AsyncFor, ast.AsyncWith, ast.Await, ast.Div, ast.Import, ast.MatMult)
# The subset lets these in some places; this package does without them.
AVOIDED = (ast.AugAssign, ast.GeneratorExp, ast.Lambda, ast.With, ast.Match, ast.NamedExpr, ast.AnnAssign, ast.Nonlocal)
PASSING = ("zip", "enumerate", "reversed", "range", "map", "iter", "items", "keys", "values")


def module_of(path):
    return ".".join(("tangentrows", *path.relative_to(ROOT).with_suffix("").parts))


def names_bound(function):
    """The parameters and local variables of a function."""
    arguments = [one.arg for one in function.args.args]
    return arguments + [node.id for node in ast.walk(function) if isinstance(node, ast.Name) and isinstance(node.ctx, ast.Store)]


def without_docstrings(tree):
    """The constant strings of a file, without its docstrings."""
    docs = set()
    for node in ast.walk(tree):
        body = getattr(node, "body", None)
        if isinstance(body, list) and body and isinstance(body[0], ast.Expr):
            docs.add(id(body[0].value))
    return [node.value for node in ast.walk(tree)
            if isinstance(node, ast.Constant) and isinstance(node.value, str) and id(node) not in docs]


class LanguageTest(unittest.TestCase):
    def each(self):
        for path in FILES:
            text = path.read_text()
            yield path, text, ast.parse(text)

    def test_files_and_sizes(self):
        self.assertLessEqual(len(FILES), 100)
        for path in ROOT.rglob("*"):
            if "__pycache__" not in path.parts:
                self.assertTrue(path.is_dir() and (path / "__init__.py").exists() or path.suffix == ".py", path)
                self.assertTrue(re.fullmatch("[a-z0-9_]+", path.stem), path)
        for path, text, tree in self.each():
            self.assertTrue(all(" " <= letter <= "~" or letter == "\n" for letter in text))
            lines = text.split("\n")
            self.assertLessEqual(len(lines), 399)
            self.assertLessEqual(max(map(len, lines)), 120)
            for node in ast.walk(tree):
                if isinstance(node, ast.FunctionDef):
                    self.assertLessEqual(node.end_lineno - node.lineno + 1, 40, node.name)
            self.assertFalse(path.with_suffix("").is_dir())

    def test_module_level(self):
        for path, text, tree in self.each():
            bound = []
            for at, node in enumerate(tree.body):
                if isinstance(node, ast.Expr):
                    self.assertTrue(at == 0 and isinstance(node.value, ast.Constant) and isinstance(node.value.value, str))
                elif isinstance(node, ast.ImportFrom):
                    self.assertEqual(node.level, 0)
                    bound += [one.name for one in node.names]
                    self.assertTrue(all(one.asname is None for one in node.names))
                elif isinstance(node, ast.Assign):
                    self.assertEqual(len(node.targets), 1)
                    self.assertFalse([one for one in ast.walk(node.value) if isinstance(one, (ast.Call, ast.ListComp))])
                    bound.append(node.targets[0].id)
                else:
                    self.assertIsInstance(node, (ast.FunctionDef, ast.ClassDef))
                    bound.append(node.name)
            self.assertEqual(len(set(bound)), len(bound))
            self.assertFalse(set(bound) & set(dir(builtins)))

    def test_imports(self):
        graph = {}
        for path, text, tree in self.each():
            graph[module_of(path)] = []
            for node in ast.walk(tree):
                if isinstance(node, ast.ImportFrom):
                    names = {one.name for one in node.names}
                    if node.module in LIBRARY:
                        self.assertLessEqual(names, LIBRARY[node.module])
                        continue
                    target = ROOT.parent / (node.module.replace(".", "/") + ".py")
                    graph[module_of(path)].append(node.module)
                    defined = set()
                    for other in ast.parse(target.read_text()).body:
                        if isinstance(other, ast.Assign):
                            defined.add(other.targets[0].id)
                        defined.add(getattr(other, "name", None))
                    self.assertLessEqual(names, defined)
        while graph:
            free = [name for name in graph if not [other for other in graph[name] if other in graph]]
            self.assertTrue(free, "files import each other")
            for name in free:
                del graph[name]

    def test_imports_are_used(self):
        for path, text, tree in self.each():
            imported = {one.name for node in tree.body if isinstance(node, ast.ImportFrom) for one in node.names}
            used = {node.id for node in ast.walk(tree) if isinstance(node, ast.Name)}
            self.assertLessEqual(imported, used)

    def test_kinds_of_code(self):
        for path, text, tree in self.each():
            for node in ast.walk(tree):
                self.assertNotIsInstance(node, NODES)
                if isinstance(node, ast.Constant):
                    self.assertNotIsInstance(node.value, float)
                if isinstance(node, ast.Compare) and any(isinstance(one, (ast.Is, ast.IsNot)) for one in node.ops):
                    self.assertTrue(all(one.value in (None, True, False) for one in node.comparators))
                if isinstance(node, ast.BinOp) and isinstance(node.op, ast.Pow):
                    self.assertTrue(isinstance(node.right, ast.Constant) and 0 <= node.right.value <= 64)
                if isinstance(node, ast.FunctionDef):
                    self.assertLessEqual({one.id for one in node.decorator_list}, {"property", "classmethod"})
                    if node.name.startswith("__"):
                        self.assertIn(node.name, DUNDERS)

    def test_kinds_of_code_that_are_avoided(self):
        for path, text, tree in self.each():
            for node in ast.walk(tree):
                self.assertNotIsInstance(node, AVOIDED)
                if isinstance(node, ast.FunctionDef):
                    inner = [one for one in ast.walk(node) if isinstance(one, (ast.FunctionDef, ast.ClassDef))]
                    self.assertEqual(inner, [node])
                if isinstance(node, ast.Starred):
                    self.assertIsInstance(node.value, (ast.Name, ast.Attribute), (path, node.lineno))

    def test_what_is_caught(self):
        # Only own errors, by their names; what a handler names is an error of which an own attribute is read.
        own = {node.name for node in ast.parse((ROOT / "errors.py").read_text()).body if isinstance(node, ast.ClassDef)}
        for path, text, tree in self.each():
            for node in ast.walk(tree):
                if isinstance(node, ast.Try):
                    self.assertFalse(node.finalbody or node.orelse)
                    for handler in node.handlers:
                        names = handler.type.elts if isinstance(handler.type, ast.Tuple) else [handler.type]
                        self.assertLessEqual({name.id for name in names}, own)
                        uses = [one for one in ast.walk(handler) if isinstance(one, ast.Name) and one.id == handler.name]
                        reads = [one.value for one in ast.walk(handler) if isinstance(one, ast.Attribute)]
                        self.assertTrue(all(use in reads for use in uses))
                if isinstance(node, ast.Raise):
                    self.assertTrue(isinstance(node.exc, ast.Call) and node.cause is None)

    def test_methods_with_underscores(self):
        for path, text, tree in self.each():
            for node in ast.walk(tree):
                if isinstance(node, ast.FunctionDef) and node.name in ("__len__", "__iter__"):
                    self.assertEqual(len(node.body), 1)
                    self.assertEqual(node.body[0].value.func.id, node.name.strip("_"))
                if isinstance(node, ast.FunctionDef) and node.name == "__exit__":
                    for row in node.body:
                        self.assertTrue(isinstance(row, ast.Assign) and isinstance(row.value, ast.Constant))
                        self.assertIsInstance(row.targets[0], ast.Attribute)

    def test_texts_in_braces(self):
        for path, text, tree in self.each():
            for node in ast.walk(tree):
                if isinstance(node, ast.FormattedValue):
                    self.assertIsNone(node.format_spec)
                    constants = [one.value for one in ast.walk(node.value) if isinstance(one, ast.Constant)]
                    self.assertTrue(all(isinstance(one, int) for one in constants))

    def test_what_is_iterated_at_once(self):
        for path, text, tree in self.each():
            let = set()
            for node in ast.walk(tree):
                if isinstance(node, (ast.For, ast.comprehension)):
                    let.add(id(node.iter))
                if isinstance(node, ast.Call) and isinstance(node.func, ast.Name):
                    if node.func.id in ("list", "tuple", "dict", "sorted", "sum", "any", "all", "enumerate", "zip", "min", "max", "len"):
                        let |= {id(one) for one in node.args[:1]}
                if isinstance(node, ast.FunctionDef) and node.name == "__iter__":
                    let |= {id(one) for one in ast.walk(node)}
            for node in ast.walk(tree):
                if isinstance(node, ast.Call):
                    name = getattr(node.func, "id", None) or getattr(node.func, "attr", None)
                    if name in PASSING:
                        self.assertIn(id(node), let, (path, node.lineno))

    def test_names(self):
        own = set()
        for path in FILES:
            for node in ast.walk(ast.parse(path.read_text())):
                if isinstance(node, (ast.FunctionDef, ast.ClassDef)):
                    own.add(node.name)
        for path, text, tree in self.each():
            top = {one.name for node in tree.body if isinstance(node, ast.ImportFrom) for one in node.names}
            top |= {node.name for node in tree.body if isinstance(node, (ast.ClassDef, ast.FunctionDef))}
            for node in ast.walk(tree):
                if isinstance(node, ast.FunctionDef):
                    bound = set(names_bound(node))
                    self.assertFalse(bound & (top | set(dir(builtins)) | BARRED), node.name)
                if isinstance(node, ast.Call) and isinstance(node.func, ast.Attribute):
                    self.assertIn(node.func.attr, METHODS | own)
                if isinstance(node, ast.Name) and hasattr(builtins, node.id):
                    self.assertIn(node.id, BUILTINS)
                if isinstance(node, ast.Call) and isinstance(node.func, ast.Name) and hasattr(builtins, node.func.id):
                    self.assertLessEqual({one.arg for one in node.keywords}, {"key", "reverse", "default", "start", "strict"})
                    if node.func.id in ("any", "all", "sum", "min", "max", "sorted"):
                        self.assertFalse([one for one in node.args if isinstance(one, ast.GeneratorExp)])

    def test_words(self):
        for path, text, tree in self.each():
            for value in without_docstrings(tree):
                self.assertNotIn("%", value)
                self.assertFalse(set(re.findall(r"\w+", value)) & WORDS)
            names = {node.id for node in ast.walk(tree) if isinstance(node, ast.Name)}
            names |= {node.attr for node in ast.walk(tree) if isinstance(node, ast.Attribute)}
            self.assertFalse(names & WORDS)
            self.assertFalse([word for word in ("(type)", "Meta", "metaclass=", "dataclass", "overload", "contextmanager", "_wall")
                              if word in text])
            self.assertNotIn("\t", text)

    def test_sets(self):
        for path, text, tree in self.each():
            let = set()
            for node in ast.walk(tree):
                if isinstance(node, ast.Call) and isinstance(node.func, ast.Name) and node.func.id in ("len", "sorted"):
                    let |= {id(one) for one in node.args}
            for node in ast.walk(tree):
                if isinstance(node, ast.Call) and isinstance(node.func, ast.Name) and node.func.id == "set":
                    self.assertIn(id(node), let)
                self.assertNotIsInstance(node, (ast.Set, ast.SetComp))


if __name__ == "__main__":
    unittest.main()
