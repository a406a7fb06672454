"""The rules of LANGUAGE.md that a glance at the package's code can check."""

import ast
import builtins
import pathlib
import re
import unittest

PACKAGE = pathlib.Path(__file__).resolve().parent.parent / "rowmarks"
LIBRARY = {
    "heapq": {"heappush", "heappop", "heapify", "heapreplace", "heappushpop"},
    "math": {"gcd", "lcm", "isqrt", "comb", "perm", "factorial"},
    "itertools": {
        "product", "combinations", "permutations", "chain", "accumulate", "pairwise", "islice", "zip_longest"
    },
    "collections": {"defaultdict"},
}
BUILTINS = set(
    """len range enumerate zip min max sum abs sorted reversed int str bool list tuple dict set isinstance ord repr
    any all divmod pow getattr hasattr setattr iter next map property staticmethod classmethod super Exception
    ValueError TypeError KeyError IndexError LookupError ZeroDivisionError ArithmeticError OverflowError RuntimeError
    NotImplementedError AttributeError StopIteration NotImplemented""".split()
)
METHODS = set(
    """append clear copy count endswith extend find get index insert isalnum isalpha isdigit islower isspace isupper
    items join keys ljust lower lstrip partition pop remove replace reverse rfind rjust rpartition rsplit rstrip
    setdefault split splitlines startswith strip update upper values zfill bit_length title capitalize swapcase
    casefold center expandtabs removeprefix removesuffix rindex isascii isdecimal isnumeric istitle isidentifier
    isprintable translate sort add discard format""".split()
)
DUNDERS = set(
    """__init__ __eq__ __repr__ __str__ __len__ __enter__ __exit__ __call__ __iter__ __lt__ __le__ __gt__ __ge__
    __ne__ __add__ __sub__ __mul__ __floordiv__ __mod__ __pow__ __and__ __or__ __xor__ __lshift__ __rshift__
    __neg__ __pos__ __invert__ __abs__ __bool__ __contains__ __getitem__ __setitem__""".split()
)
BARRED_NAMES = set(
    """register mro elements open input law version_info with_traceback add_note attrgetter breakpoint builtins
    compile copyright credits delattr dir eval exec exit gc globals help id importlib license locals methodcaller os
    quit type vars sys""".split()
)
BARRED_WORDS = re.compile(
    r"\b(type|typing|typing_extensions|enum|Enum|IntEnum|StrEnum|Flag|IntFlag|Generic|Protocol|ABC|ABCMeta"
    r"|namedtuple|NamedTuple|TypedDict|TYPE_CHECKING|abstractmethod)\b|dataclass|overload|contextmanager|_wall|_WallAttr"
)
BARRED_STARTS = ("_wall", "_pe_", "_dcw_", "_enum_", "_cm_", "_twin_re_", "_lay_", "_law_", "_stub_", "_sre", "_WallAttr")
BARRED_OWN = re.compile(r"^_(cold|tuplegetter|outside|record|written_out|member_names)[0-9_]*$")
ITERATED = ("any", "all", "min", "max", "sum", "sorted")
BARRED_NODES = (
    ast.Global, ast.AsyncFunctionDef, ast.AsyncFor, ast.AsyncWith, ast.Await, ast.Div, ast.MatMult, ast.Import,
    ast.TryStar,
)
TOP = (ast.FunctionDef, ast.ClassDef, ast.Assign, ast.ImportFrom, ast.Expr)


def files():
    return sorted(PACKAGE.rglob("*.py"))


def docstrings(tree):
    found = set()
    for node in ast.walk(tree):
        if isinstance(node, (ast.Module, ast.ClassDef, ast.FunctionDef)) and ast.get_docstring(node) is not None:
            found.add(id(node.body[0].value))
    return found


def bound_names(tree):
    """Each name that the code gives a meaning, with its line."""
    for node in ast.walk(tree):
        if isinstance(node, (ast.FunctionDef, ast.ClassDef)):
            yield node.name, node.lineno
        elif isinstance(node, ast.Name) and isinstance(node.ctx, ast.Store):
            yield node.id, node.lineno
        elif isinstance(node, ast.arg):
            yield node.arg, node.lineno
        elif isinstance(node, ast.alias):
            yield node.asname or node.name, node.lineno
        elif isinstance(node, ast.Attribute):
            yield node.attr, node.lineno


class Language(unittest.TestCase):
    def each(self):
        for path in files():
            text = path.read_text(encoding="utf-8")
            yield path.relative_to(PACKAGE).as_posix(), text, ast.parse(text)

    def none(self, found):
        self.assertEqual(list(found), [])

    def test_the_folder_holds_only_plain_files(self):
        others = [path for path in PACKAGE.rglob("*") if "__pycache__" not in path.parts and path not in files()]
        self.assertEqual(others, [])
        for path in files():
            self.assertRegex(path.name, r"^([a-z][a-z0-9_]*|__init__)\.py$")

    def test_sizes_and_characters(self):
        for name, text, tree in self.each():
            self.assertLessEqual(len(text.splitlines()), 399, name)
            self.none((name, at) for at, line in enumerate(text.split("\n"), 1) if len(line) > 120)
            self.none((name, letter) for letter in text if letter != "\n" and not " " <= letter <= "~")
            for node in ast.walk(tree):
                if isinstance(node, ast.FunctionDef):
                    self.assertLessEqual(node.end_lineno - node.lineno + 1, 40, f"{name}: {node.name}")

    def test_module_level(self):
        for name, _, tree in self.each():
            self.none((name, node.lineno) for node in tree.body if not isinstance(node, TOP))
            self.none(
                (name, node.lineno)
                for node in tree.body
                if isinstance(node, ast.Expr) and not isinstance(node.value, ast.Constant)
            )
            self.none(
                (name, node.lineno) for node in ast.walk(tree) if isinstance(node, ast.ImportFrom) and node not in tree.body
            )
            names = [word for node in tree.body for word in self.made(node)]
            self.assertEqual(len(names), len(set(names)), name)

    def made(self, node):
        if isinstance(node, ast.ImportFrom):
            return [alias.asname or alias.name for alias in node.names]
        if isinstance(node, ast.Assign):
            return [target.id for target in node.targets]
        return [node.name] if isinstance(node, (ast.FunctionDef, ast.ClassDef)) else []

    def test_imports_name_the_file_that_defines(self):
        defined, asked = {}, {}
        for name, _, tree in self.each():
            module = "rowmarks." + name[:-3]
            defined[module] = [
                word for node in tree.body if not isinstance(node, ast.ImportFrom) for word in self.made(node)
            ]
            asked[module] = [node for node in tree.body if isinstance(node, ast.ImportFrom)]
        for module, nodes in asked.items():
            for node in nodes:
                known = LIBRARY.get(node.module) or defined.get(node.module, ())
                self.assertEqual(node.level, 0, module)
                self.none((module, alias.name) for alias in node.names if alias.name not in known or alias.asname)
        self.check_circles({module: [node.module for node in nodes] for module, nodes in asked.items()})

    def check_circles(self, left):
        left = dict(left)
        while left:
            ready = [module for module, needs in left.items() if not any(need in left for need in needs)]
            self.assertTrue(ready, f"a circle of imports in {sorted(left)}")
            for module in ready:
                del left[module]

    def test_statements_and_signs(self):
        for name, _, tree in self.each():
            texts = docstrings(tree)
            for node in ast.walk(tree):
                self.assertNotIsInstance(node, BARRED_NODES, f"{name}: {getattr(node, 'lineno', 0)}")
                if isinstance(node, ast.Constant):
                    self.assertNotIsInstance(node.value, (float, complex), name)
                    if isinstance(node.value, str) and id(node) not in texts:
                        self.assertNotIn("%", node.value, name)
                if isinstance(node, ast.Set):
                    integers = [item for item in node.elts if isinstance(getattr(item, "value", None), int)]
                    self.assertLessEqual(len(integers), 2, name)

    def test_builtins(self):
        known = set(vars(builtins))
        for name, _, tree in self.each():
            self.none(
                (name, node.lineno, node.id)
                for node in ast.walk(tree)
                if isinstance(node, ast.Name) and node.id in known - BUILTINS
            )

    def test_names(self):
        dunder = re.compile("^__.*")
        for name, _, tree in self.each():
            for word, line in bound_names(tree):
                with self.subTest(file=name, line=line, word=word):
                    self.assertTrue(word in DUNDERS or not dunder.match(word))
                    self.assertNotIn(word, BARRED_NAMES)
                    self.assertFalse(word.startswith(BARRED_STARTS) or BARRED_OWN.match(word))
            stored = [node.id for node in ast.walk(tree) if isinstance(node, ast.Name) and isinstance(node.ctx, ast.Store)]
            parameters = [node.arg for node in ast.walk(tree) if isinstance(node, ast.arg)]
            self.none(word for word in stored + parameters if word in vars(builtins))

    def test_locals_do_not_hide_imports_and_classes(self):
        for name, _, tree in self.each():
            outer = [alias.asname or alias.name for node in tree.body if isinstance(node, ast.ImportFrom) for alias in node.names]
            outer += [node.name for node in tree.body if isinstance(node, (ast.ClassDef, ast.FunctionDef))]
            for function in ast.walk(tree):
                if isinstance(function, ast.FunctionDef):
                    inner = [node.arg for node in ast.walk(function) if isinstance(node, ast.arg)]
                    inner += [node.id for node in ast.walk(function) if isinstance(node, ast.Name) and isinstance(node.ctx, ast.Store)]
                    inner += [node.name for node in ast.walk(function) if isinstance(node, ast.MatchAs) and node.name]
                    self.none((name, function.name, word) for word in inner if word in outer)

    def test_patterns(self):
        # Beside |, a pattern has no names and no _.
        for name, _, tree in self.each():
            for node in ast.walk(tree):
                if isinstance(node, ast.MatchOr):
                    self.none((name, node.lineno) for inner in ast.walk(node) if isinstance(inner, ast.MatchAs))

    def test_words(self):
        for name, text, tree in self.each():
            code = re.sub(r'""".*?"""|#.*', "", text, flags=re.S)
            self.none((name, found.group()) for found in BARRED_WORDS.finditer(code))

    def test_methods_that_are_called(self):
        trees = [(name, tree) for name, _, tree in self.each()]
        own = {node.name for _, tree in trees for node in ast.walk(tree) if isinstance(node, ast.FunctionDef)}
        for name, tree in trees:
            self.none(
                (name, node.lineno, node.func.attr)
                for node in ast.walk(tree)
                if isinstance(node, ast.Call) and isinstance(node.func, ast.Attribute)
                if node.func.attr not in own | METHODS
            )

    def test_classes_with_items_say_how_they_are_iterated_over(self):
        for name, _, tree in self.each():
            for node in ast.walk(tree):
                if isinstance(node, ast.ClassDef):
                    methods = [inner.name for inner in node.body if isinstance(inner, ast.FunctionDef)]
                    self.assertEqual(len(methods), len(set(methods)), f"{name}: {node.name}")
                    self.assertTrue("__iter__" in methods or "__getitem__" not in methods, f"{name}: {node.name}")

    def test_calls_beside_classes_that_compare(self):
        # The package has classes with __eq__ and __getitem__, which bar some calls (L5, L7, L25).
        for name, _, tree in self.each():
            for node in ast.walk(tree):
                if not isinstance(node, ast.Call):
                    continue
                place = f"{name}: {node.lineno}"
                if isinstance(node.func, ast.Name) and node.func.id in ITERATED:
                    self.none(place for given in node.args if isinstance(given, ast.GeneratorExp))
                self.assertNotEqual(getattr(node.func, "attr", None), "sort", place)

    def test_sets_stand_only_where_they_may(self):
        # Stricter than L24: sets are written only inside of len and sorted, and none is stored.
        for name, _, tree in self.each():
            inside = [
                given
                for node in ast.walk(tree)
                if isinstance(node, ast.Call) and getattr(node.func, "id", None) in ("len", "sorted") and not node.keywords
                for given in node.args
            ]
            for node in ast.walk(tree):
                if isinstance(node, ast.SetComp) or (isinstance(node, ast.Call) and getattr(node.func, "id", None) == "set"):
                    self.assertIn(node, inside, f"{name}: {node.lineno}")

    def test_is_only_beside_constants(self):
        for name, _, tree in self.each():
            for node in ast.walk(tree):
                if isinstance(node, ast.Compare) and any(isinstance(sign, (ast.Is, ast.IsNot)) for sign in node.ops):
                    self.none((name, node.lineno) for other in node.comparators if not isinstance(other, ast.Constant))

    def test_decorators(self):
        for name, _, tree in self.each():
            for node in ast.walk(tree):
                if isinstance(node, ast.ClassDef):
                    self.assertEqual(node.decorator_list, [], name)
                for decorator in getattr(node, "decorator_list", []):
                    self.assertRegex(ast.unparse(decorator), r"^(property|staticmethod|classmethod|\w+\.setter)$")

    def test_a_name_is_not_a_method_and_an_attribute(self):
        # Over all classes at once: stricter than L18, which has exceptions for other classes.
        methods, attributes = {}, {}
        for name, _, tree in self.each():
            for node in ast.walk(tree):
                if isinstance(node, ast.FunctionDef) and node.args.args and node.args.args[0].arg == "self":
                    methods[node.name] = name
                if isinstance(node, ast.Attribute) and isinstance(node.ctx, ast.Store):
                    attributes[node.attr] = name
        self.assertEqual(sorted(set(methods) & set(attributes)), [])


if __name__ == "__main__":
    unittest.main()
