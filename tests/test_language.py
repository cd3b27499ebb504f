"""What a test can see of the language rules: the form of the package's files."""

import ast
import builtins
import pathlib
import re
import unittest

PACKAGE = pathlib.Path(__file__).parent.parent / "towerline"
FILES = sorted(PACKAGE.rglob("*.py"))

BUILTINS = set(
    "len range enumerate zip min max sum abs sorted reversed int str bool bytes list tuple dict set frozenset "
    "isinstance ord repr any all divmod pow getattr hasattr setattr iter next map type property staticmethod "
    "classmethod super Exception ValueError TypeError KeyError IndexError LookupError ZeroDivisionError "
    "ArithmeticError OverflowError RuntimeError NotImplementedError AttributeError StopIteration "
    "NotImplemented".split()
)
METHODS = set(
    "append clear copy count endswith extend find get index insert isalnum isalpha isdigit islower isspace isupper "
    "items join keys ljust lower lstrip partition pop remove replace reverse rfind rjust rpartition rsplit rstrip "
    "setdefault split splitlines startswith strip update upper values zfill bit_length title capitalize swapcase "
    "casefold center expandtabs removeprefix removesuffix rindex isascii isdecimal isnumeric istitle isidentifier "
    "isprintable translate maketrans format sort add discard popleft appendleft extendleft rotate "
    "from_iterable".split()
)
LIBRARY = {
    "heapq": "heappush heappop heapify heapreplace heappushpop".split(),
    "math": "gcd lcm isqrt comb perm factorial".split(),
    "itertools": "product combinations permutations chain accumulate pairwise islice zip_longest".split(),
    "collections": "defaultdict deque".split(),
}
NOWHERE = set("register mro elements open input law version_info with_traceback add_note".split())
NOT_AS_NAMES = set(
    "attrgetter breakpoint builtins compile copyright credits delattr dir eval exec exit gc globals help id "
    "importlib license locals methodcaller os quit vars sys __name__".split()
)
WORDS = set(
    "typing typing_extensions enum Enum IntEnum StrEnum Flag IntFlag Generic Protocol ABC ABCMeta namedtuple "
    "NamedTuple TypedDict TYPE_CHECKING abstractmethod".split()
)
STATEMENTS = (
    ast.Assign, ast.AugAssign, ast.AnnAssign, ast.If, ast.While, ast.For, ast.Return, ast.Break, ast.Continue,
    ast.Pass, ast.Raise, ast.Assert, ast.Delete, ast.Nonlocal, ast.Global, ast.Match, ast.With, ast.Try, ast.Expr,
    ast.FunctionDef, ast.ClassDef, ast.ImportFrom,
)
FUNCTIONS = (ast.FunctionDef, ast.Lambda)


def docstrings(tree):
    """The nodes that are docstrings."""
    found = []
    for node in ast.walk(tree):
        if isinstance(node, (ast.Module, ast.ClassDef, ast.FunctionDef)) and ast.get_docstring(node) is not None:
            found.append(node.body[0].value)
    return found


def bound_names(tree):
    """All names that a file binds: by assignments, loops, parameters, functions, classes, imports."""
    found = []
    for node in ast.walk(tree):
        if isinstance(node, ast.Name) and not isinstance(node.ctx, ast.Load):
            found.append(node.id)
        elif isinstance(node, ast.arg):
            found.append(node.arg)
        elif isinstance(node, (ast.FunctionDef, ast.ClassDef)):
            found.append(node.name)
        elif isinstance(node, ast.alias):
            found.append(node.asname or node.name)
        elif isinstance(node, ast.ExceptHandler) and node.name:
            found.append(node.name)
    return found


def method_names(tree):
    """The names of all methods."""
    return [
        node.name
        for each in ast.walk(tree) if isinstance(each, ast.ClassDef)
        for node in each.body if isinstance(node, ast.FunctionDef)
    ]


class Form(unittest.TestCase):
    def setUp(self):
        self.trees = {path: ast.parse(path.read_text(encoding="ascii")) for path in FILES}

    def nodes(self, *kinds):
        for path, tree in self.trees.items():
            for node in ast.walk(tree):
                if isinstance(node, kinds):
                    yield path.name, node

    def test_folder(self):
        others = [path for path in PACKAGE.rglob("*") if "__pycache__" not in path.parts and path not in FILES]
        self.assertEqual([path for path in others if not path.is_dir()], [])
        self.assertIn(PACKAGE / "__init__.py", FILES)
        for path in FILES:
            self.assertRegex(path.name, r"^([a-z][a-z0-9_]*|__init__)\.py$")
            self.assertNotIn(path.stem, dir(builtins))
            self.assertNotRegex(path.stem, r"^(law_.*|test.*|site|conftest|sitecustomize|usercustomize)$")

    def test_sizes_and_characters(self):
        for path in FILES:
            text = path.read_text(encoding="ascii")
            self.assertLessEqual(len(text.splitlines()), 399, path.name)
            self.assertRegex(text, r"\A[ -~\n]*\Z", path.name)
            self.assertEqual([row for row in text.split("\n") if len(row) > 120 or row != row.rstrip()], [])
        for name, node in self.nodes(ast.FunctionDef):
            self.assertLessEqual(node.end_lineno - node.lineno + 1, 40, (name, node.name))

    def test_imports(self):
        graph = {}
        for path, tree in self.trees.items():
            graph[path.stem] = []
            for at, node in enumerate(tree.body):
                if not isinstance(node, ast.ImportFrom):
                    continue
                self.assertEqual(node.level, 0)
                self.assertTrue(all(isinstance(other, (ast.ImportFrom, ast.Expr)) for other in tree.body[:at]))
                names = [alias.name for alias in node.names]
                self.assertEqual([alias.asname for alias in node.names if alias.asname], [])
                if node.module in LIBRARY:
                    self.assertLessEqual(set(names), set(LIBRARY[node.module]))
                    continue
                self.assertRegex(node.module, r"^(towerline\.[a-z_0-9]+|__future__)$", path.name)
                other = PACKAGE / (node.module.split(".")[-1] + ".py")
                if other in self.trees:
                    graph[path.stem].append(other.stem)
                    told = [
                        each.name if isinstance(each, (ast.FunctionDef, ast.ClassDef)) else each.targets[0].id
                        for each in self.trees[other].body
                        if isinstance(each, (ast.FunctionDef, ast.ClassDef, ast.Assign))
                    ]
                    self.assertLessEqual(set(names), set(told), path.name)
                used = {each.id for each in ast.walk(tree) if isinstance(each, ast.Name)}
                self.assertLessEqual(set(names) - {"annotations"}, used, path.name)
        while graph:
            free = [stem for stem, wanted in graph.items() if not set(wanted) & set(graph)]
            self.assertTrue(free, f"files import from each other: {sorted(graph)}")
            for stem in free:
                del graph[stem]
        self.assertEqual([node.lineno for _, node in self.nodes(ast.Import)], [])

    def test_module_level(self):
        for path, tree in self.trees.items():
            bound = []
            for node in tree.body:
                self.assertIsInstance(
                    node, (ast.Expr, ast.ImportFrom, ast.FunctionDef, ast.ClassDef, ast.Assign), path.name,
                )
                if isinstance(node, ast.Expr):
                    self.assertIs(node, tree.body[0])
                    self.assertIsInstance(node.value.value, str)
                elif isinstance(node, ast.Assign):
                    self.assertEqual(len(node.targets), 1)
                    self.assertIsInstance(node.targets[0], ast.Name)
                    self.assertEqual([one for one in ast.walk(node.value) if isinstance(one, ast.Call)], [])
                    bound.append(node.targets[0].id)
                elif isinstance(node, ast.ImportFrom):
                    bound += [alias.name for alias in node.names]
                else:
                    bound.append(node.name)
            self.assertEqual(len(bound), len(set(bound)), path.name)

    def test_statements(self):
        for name, node in self.nodes(ast.stmt):
            self.assertIsInstance(node, STATEMENTS, (name, node.lineno))

    def test_no_floats_no_division_no_percent(self):
        for name, tree in self.trees.items():
            told = docstrings(tree)
            for node in ast.walk(tree):
                if isinstance(node, ast.Constant) and not any(node is one for one in told):
                    self.assertNotIsInstance(node.value, (float, complex), name)
                    if isinstance(node.value, str):
                        self.assertNotIn("%", node.value, name)
                        self.assertFalse(set(re.findall(r"\w+", node.value)) & WORDS, name)
                self.assertNotIsInstance(node, (ast.Div, ast.MatMult), name)

    def test_names(self):
        for path, tree in self.trees.items():
            methods = method_names(tree)
            for name in bound_names(tree):
                if name in methods:
                    continue
                self.assertRegex(name, r"^(_|_?[A-Za-z][A-Za-z0-9_]*)$", path.name)
                self.assertNotIn(name, dir(builtins), path.name)
                self.assertNotIn(name, NOT_AS_NAMES | NOWHERE | WORDS, path.name)
            text = path.read_text()
            self.assertNotRegex(text, r"_wall|_WallAttr|dataclass|overload|contextmanager", path.name)
            outer = [node.name for node in tree.body if isinstance(node, ast.ClassDef)]
            outer += [alias.name for node in tree.body if isinstance(node, ast.ImportFrom) for alias in node.names]
            for node in ast.walk(tree):
                if isinstance(node, FUNCTIONS):
                    inner = [one.id for one in ast.walk(node)
                             if isinstance(one, ast.Name) and isinstance(one.ctx, ast.Store)]
                    inner += [one.arg for one in ast.walk(node) if isinstance(one, ast.arg)]
                    self.assertFalse(set(inner) & set(outer), path.name)

    def test_builtins(self):
        for path, tree in self.trees.items():
            bound = set(bound_names(tree))
            for node in ast.walk(tree):
                if isinstance(node, ast.Name) and node.id not in bound:
                    self.assertIn(node.id, BUILTINS, (path.name, node.lineno))

    def test_methods(self):
        own = [name for tree in self.trees.values() for name in method_names(tree)]
        for name, node in self.nodes(ast.Call):
            if isinstance(node.func, ast.Attribute):
                self.assertIn(node.func.attr, METHODS | set(own), (name, node.lineno))
        for name, node in self.nodes(ast.Attribute):
            self.assertNotIn(node.attr, NOWHERE | {"args", "format_map"}, (name, node.lineno))

    def test_sets_are_not_gone_through(self):
        for name, node in self.nodes(ast.For, ast.comprehension):
            self.assertNotIsInstance(node.iter, (ast.Set, ast.SetComp), name)
            if isinstance(node.iter, ast.Call) and isinstance(node.iter.func, ast.Name):
                self.assertNotIn(node.iter.func.id, ("set", "frozenset"), name)

    def test_decorators(self):
        for name, node in self.nodes(ast.FunctionDef, ast.ClassDef):
            for decorator in node.decorator_list:
                word = decorator.attr if isinstance(decorator, ast.Attribute) else decorator.id
                self.assertIn(word, ("property", "setter", "staticmethod", "classmethod"), name)

    def test_each_function_and_class_is_described(self):
        for name, node in self.nodes(ast.FunctionDef, ast.ClassDef):
            if not node.name.startswith("__"):
                self.assertIsNotNone(ast.get_docstring(node), (name, node.name))


if __name__ == "__main__":
    unittest.main()
