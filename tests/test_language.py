"""The rules of the language that can be read off the files of the package (L1 to L28)."""

import ast
import builtins
import re
import unittest
from functools import lru_cache
from pathlib import Path

PACKAGE = Path(__file__).resolve().parent.parent / "fusenets"

BUILTINS = set("""len range enumerate zip min max sum abs sorted reversed int str bool bytes list tuple dict set frozenset
    isinstance ord repr any all divmod iter next map property staticmethod classmethod super object Exception ValueError
    TypeError KeyError IndexError LookupError ZeroDivisionError ArithmeticError OverflowError RuntimeError
    NotImplementedError AttributeError StopIteration NotImplemented""".split())
METHODS = set("""append clear copy count endswith extend find get index insert isalnum isalpha isdigit islower isspace isupper
    items join keys ljust lower lstrip partition pop remove replace reverse rfind rjust rpartition rsplit rstrip setdefault
    split splitlines startswith strip update upper values zfill bit_length""".split())
SPECIAL = set("""__init__ __eq__ __repr__ __str__ __len__ __enter__ __exit__ __call__ __iter__ __lt__ __le__ __gt__ __ge__ __ne__
    __add__ __sub__ __mul__ __floordiv__ __mod__ __pow__ __radd__ __rsub__ __rmul__ __neg__ __pos__ __abs__ __bool__
    __contains__ __getitem__ __setitem__""".split())
LIBRARY = {"heapq": set("heappush heappop heapify heapreplace heappushpop".split()),
           "math": set("gcd lcm isqrt comb perm factorial".split()), "itertools": set("product combinations permutations".split())}
BARRED_NAMES = set("""register mro elements open input law version_info with_traceback add_note breakpoint builtins compile copyright
    credits delattr dir eval exec exit gc getattr globals hasattr help id importlib license locals os quit setattr type vars
    sys""".split())
BARRED_WORDS = set("""type typing typing_extensions enum Enum IntEnum StrEnum Flag IntFlag Generic Protocol ABC ABCMeta namedtuple
    NamedTuple TypedDict TYPE_CHECKING abstractmethod""".split())
STATEMENTS = (ast.Assign, ast.AugAssign, ast.If, ast.While, ast.For, ast.Return, ast.Break, ast.Continue, ast.Pass, ast.Raise,
              ast.Assert, ast.Delete, ast.Nonlocal, ast.Match, ast.With, ast.Try, ast.Expr, ast.FunctionDef, ast.ClassDef,
              ast.ImportFrom, ast.AnnAssign)
NOT_USED = (ast.GeneratorExp, ast.Lambda, ast.Set, ast.Global, ast.Div, ast.MatMult, ast.Await)


@lru_cache
def files():
    """Tuples (name, text, tree) of all files of the package, the same trees at each call."""
    return [(path.name, path.read_text(), ast.parse(path.read_text())) for path in sorted(PACKAGE.glob("*.py"))]


def walked(kind):
    """Tuples (file, node) of all nodes of a kind."""
    return [(name, node) for name, _, tree in files() for node in ast.walk(tree) if isinstance(node, kind)]


def bound(tree):
    """All names that functions of a file assign: parameters, variables and loop variables."""
    stored = {node.id for node in ast.walk(tree) if isinstance(node, ast.Name) and not isinstance(node.ctx, ast.Load)}
    return stored | {node.arg for node in ast.walk(tree) if isinstance(node, ast.arg)}


def called(node):
    """The bare name that a call calls, or None."""
    return node.func.id if isinstance(node.func, ast.Name) else None


def is_plain(node):
    """Whether an expression is plainly a number or a text."""
    if isinstance(node, ast.ListComp):
        return is_plain(node.elt)
    if isinstance(node, ast.List):
        return all(is_plain(item) for item in node.elts)
    if isinstance(node, ast.UnaryOp):
        return is_plain(node.operand)
    if isinstance(node, ast.Call) and called(node) == "set":
        return is_plain(node.args[0])
    return isinstance(node, ast.Constant) or isinstance(node, ast.Call) and called(node) in ("int", "len", "ord", "str", "repr")


class Files(unittest.TestCase):
    def test_only_python_files(self):
        for path in PACKAGE.iterdir():
            self.assertTrue(re.fullmatch(r"[a-z_][a-z0-9_]*\.py", path.name) or path.name == "__pycache__", path)
        self.assertTrue((PACKAGE / "__init__.py").exists())

    def test_sizes_and_characters(self):
        for name, text, _ in files():
            lines = text.split("\n")
            self.assertLessEqual(len(lines), 399, name)
            self.assertLessEqual(max(map(len, lines)), 120, name)
            self.assertTrue(all(letter == "\n" or " " <= letter <= "~" for letter in text), name)

    def test_functions_are_small(self):
        for name, node in walked(ast.FunctionDef):
            self.assertLessEqual(node.end_lineno - node.lineno + 1, 40, (name, node.name))


class Names(unittest.TestCase):
    def test_imports(self):
        trees = {name[:-3]: tree for name, _, tree in files()}
        before = {}
        for module, tree in trees.items():
            imports = [node for node in tree.body if isinstance(node, (ast.Import, ast.ImportFrom))]
            start = 1 if ast.get_docstring(tree) is not None else 0
            self.assertEqual(tree.body[start:start + len(imports)], imports, module)
            before[module] = set()
            for node in imports:
                self.assertIsInstance(node, ast.ImportFrom)
                names = {alias.name for alias in node.names}
                self.assertTrue(all(alias.asname is None for alias in node.names))
                if node.module in LIBRARY:
                    self.assertLessEqual(names, LIBRARY[node.module])
                    continue
                top, other = node.module.split(".")
                defined = {item.name for item in trees[other].body if isinstance(item, (ast.FunctionDef, ast.ClassDef))}
                defined |= {item.targets[0].id for item in trees[other].body if isinstance(item, ast.Assign)}
                self.assertEqual(top, "fusenets")
                self.assertLessEqual(names, defined, (module, other))
                before[module].add(other)
        self.check_order(before)

    def check_order(self, before):
        """No two files import from each other, neither directly nor through others."""
        while before:
            first = [module for module in before if not before[module] & set(before)]
            self.assertTrue(first, before)
            before = {module: others for module, others in before.items() if module not in first}

    def test_imports_are_used(self):
        for name, _, tree in files():
            imported = {alias.name for node in tree.body if isinstance(node, ast.ImportFrom) for alias in node.names}
            used = {node.id for node in ast.walk(tree) if isinstance(node, ast.Name)}
            self.assertLessEqual(imported, used, name)

    def test_bound_names(self):
        for name, _, tree in files():
            taken = {alias.name for node in tree.body if isinstance(node, ast.ImportFrom) for alias in node.names}
            taken |= {node.name for node in tree.body if isinstance(node, (ast.ClassDef, ast.FunctionDef))}
            names = bound(tree)
            self.assertFalse(names & taken, name)
            functions = {node.name for node in tree.body if isinstance(node, (ast.ClassDef, ast.FunctionDef))}
            self.assertFalse((names | functions) & set(dir(builtins)), name)
            attributes = {node.attr for node in ast.walk(tree) if isinstance(node, ast.Attribute)}
            self.assertFalse((names | functions | attributes) & BARRED_NAMES, name)
            self.assertFalse([item for item in names | attributes if item.startswith("__")], name)

    def test_builtins(self):
        for name, _, tree in files():
            used = {node.id for node in ast.walk(tree) if isinstance(node, ast.Name)} & set(dir(builtins))
            self.assertLessEqual(used, BUILTINS, name)

    def test_methods(self):
        own = {node.name for _, node in walked(ast.FunctionDef)}
        for name, node in walked(ast.Call):
            if isinstance(node.func, ast.Attribute):
                self.assertTrue(node.func.attr in own | METHODS, (name, node.func.attr))
                self.assertFalse(node.keywords and node.func.attr in METHODS, name)

    def test_properties(self):
        properties, methods, made = set(), set(), set()
        for _, node in walked(ast.ClassDef):
            for item in node.body:
                if isinstance(item, ast.FunctionDef):
                    told = [decorator.id for decorator in item.decorator_list]
                    self.assertIn(told, ([], ["property"], ["classmethod"]))
                    (methods if not told else properties if told == ["property"] else made).add(item.name)
        self.assertFalse(properties & methods)
        self.assertFalse(made & (properties | methods | METHODS))
        methods |= made
        stored = {node.attr for _, node in walked(ast.Attribute) if isinstance(node.ctx, ast.Store)}
        self.assertFalse(stored & (properties | methods))
        generators = {node.name for _, node in walked(ast.FunctionDef) if any(isinstance(item, ast.Yield) for item in ast.walk(node))}
        self.assertFalse(generators & methods)

    def test_attributes_are_assigned(self):
        stored = {node.attr for _, node in walked(ast.Attribute) if isinstance(node.ctx, ast.Store)}
        own = {node.name for _, node in walked(ast.FunctionDef)}
        read = {node.attr for _, node in walked(ast.Attribute) if isinstance(node.ctx, ast.Load)}
        self.assertEqual(read - stored - own - METHODS, set())
        for _, node in walked(ast.ClassDef):
            mine = {item.attr for item in ast.walk(node) if isinstance(item, ast.Attribute) and isinstance(item.ctx, ast.Store)}
            self.assertFalse(mine & {item.name for item in node.body if isinstance(item, ast.FunctionDef)}, node.name)


class Forms(unittest.TestCase):
    def test_statements(self):
        for name, node in walked(ast.stmt):
            self.assertIsInstance(node, STATEMENTS, (name, node.lineno))
        self.assertEqual(walked(NOT_USED), [])

    def test_module_level(self):
        for name, _, tree in files():
            for node in tree.body:
                if isinstance(node, ast.Assign):
                    self.assertIsInstance(node.targets[0], ast.Name)
                    ast.literal_eval(node.value)
                elif isinstance(node, ast.Expr):
                    self.assertIsInstance(node.value, ast.Constant)
                else:
                    self.assertIsInstance(node, (ast.ImportFrom, ast.FunctionDef, ast.ClassDef), name)

    def test_special_methods(self):
        for name, node in walked(ast.FunctionDef):
            if node.name.startswith("__"):
                self.assertIn(node.name, SPECIAL, name)
            if node.name in ("__len__", "__repr__", "__str__"):
                returned = [item.value for item in ast.walk(node) if isinstance(item, ast.Return)]
                self.assertIsInstance(node.body[-1], ast.Return)
                for value in returned:
                    self.assertTrue(isinstance(value, ast.JoinedStr) or called(value) in ("len", "repr", "str"))
            if node.name in ("__eq__", "__len__", "__repr__", "__str__"):
                self.assertFalse([item for item in ast.walk(node) if isinstance(item, (ast.Assign, ast.AugAssign))])

    def test_augmented_assignments(self):
        for name, node in walked(ast.AugAssign):
            self.assertTrue(isinstance(node.value, ast.Constant) and isinstance(node.value.value, int), (name, node.lineno))

    def test_order_of_plain_numbers_only(self):
        for name, node in walked(ast.Call):
            if called(node) in ("sorted", "min", "max"):
                self.assertTrue(any(is_plain(item) for item in node.args) and not node.keywords, (name, node.lineno))

    def test_iterated_at_once(self):
        for name, node in walked((ast.Assign, ast.Return)):
            value = node.value
            if isinstance(value, ast.Call):
                self.assertNotIn(called(value), ("zip", "enumerate", "reversed", "map", "range", "iter"), (name, node.lineno))

    def test_sets_stand_in_len_or_sorted(self):
        inside = {id(item) for _, node in walked(ast.Call) if called(node) in ("len", "sorted") for item in node.args}
        for name, node in walked((ast.Call, ast.SetComp)):
            if isinstance(node, ast.SetComp) or called(node) in ("set", "frozenset"):
                self.assertIn(id(node), inside, (name, node.lineno))

    def test_identity(self):
        for name, node in walked(ast.Compare):
            for sign, other in zip(node.ops, node.comparators):
                if isinstance(sign, (ast.Is, ast.IsNot)):
                    self.assertTrue(isinstance(other, ast.Constant) and other.value in (None, True, False), name)

    def test_raised_and_caught(self):
        for name, node in walked(ast.Raise):
            self.assertTrue(node.exc is None or called(node.exc), (name, node.lineno))
        for name, node in walked(ast.ExceptHandler):
            self.assertIsInstance(node.type, (ast.Name, ast.Tuple), name)

    def test_constants(self):
        docstrings = {id(node.body[0].value) for kind in (ast.Module, ast.ClassDef, ast.FunctionDef) for _, node in walked(kind)
                      if isinstance(node.body[0], ast.Expr)}
        for name, node in walked(ast.Constant):
            self.assertNotIsInstance(node.value, (float, complex))
            if isinstance(node.value, str):
                self.assertNotIn(chr(37), node.value, name)
                if id(node) not in docstrings:
                    self.assertFalse(set(re.findall(r"\w+", node.value)) & BARRED_WORDS, name)

    def test_powers(self):
        for name, node in walked(ast.BinOp):
            if isinstance(node.op, ast.Pow):
                self.assertTrue(isinstance(node.right, ast.Constant) and 0 <= node.right.value <= 64, name)

    def test_every_definition_tells_what_it_is(self):
        for name, node in walked((ast.ClassDef, ast.FunctionDef)):
            if not node.name.startswith("_"):
                self.assertIsNotNone(ast.get_docstring(node), (name, node.name))


if __name__ == "__main__":
    unittest.main()
