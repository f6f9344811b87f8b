"""The rules for the code that can be seen in its files."""

import ast
import builtins
import pathlib
import re
import unittest

FOLDER = pathlib.Path(__file__).resolve().parent.parent / "macroasm"
FILES = {path.stem: path.read_text(encoding="utf-8") for path in sorted(FOLDER.glob("*.py"))}
TREES = {name: ast.parse(text) for name, text in FILES.items()}
BUILTINS = """
len range enumerate zip min max sum abs sorted reversed int str bool list tuple dict set isinstance ord repr any all
divmod super property staticmethod classmethod Exception ValueError TypeError KeyError IndexError LookupError
ZeroDivisionError ArithmeticError OverflowError RuntimeError NotImplementedError NotImplemented
""".split()
METHODS = """
append clear count endswith extend find get index insert isalnum isalpha isdigit islower isspace isupper items join
keys ljust lower lstrip partition pop remove replace reverse rfind rjust rpartition rsplit rstrip setdefault split
splitlines startswith strip update upper values zfill bit_length isascii isidentifier
""".split()
BARRED = """
type typing typing_extensions enum Enum IntEnum StrEnum Flag IntFlag Generic Protocol ABC ABCMeta namedtuple
NamedTuple TypedDict TYPE_CHECKING abstractmethod Meta
""".split()
BARRED_NAMES = """
mro elements open input law version_info with_traceback add_note register attrgetter breakpoint compile delattr dir eval
exec exit gc getattr globals hasattr help importlib locals methodcaller os setattr vars
""".split()
# Comparisons, and arithmetic methods with their reflected and in-place forms.
ANSWERING = [f"__{word}__" for word in "eq ne lt le gt ge".split()] + [
    f"__{side}{word}__" for side in ("", "r", "i")
    for word in "add sub mul floordiv mod pow and or xor lshift rshift".split()
]
LISTS_ALONE = ("any", "all", "sum", "min", "max", "sorted")


def nodes(kind):
    """Pairs of a file and a node, for all nodes of a kind."""
    return [(name, node) for name, tree in TREES.items() for node in ast.walk(tree) if isinstance(node, kind)]


def functions():
    """All functions and methods, with their files."""
    return nodes(ast.FunctionDef)


def bound_in(function):
    """The names of the parameters and local variables of a function."""
    told = [node.arg for node in ast.walk(function) if isinstance(node, ast.arg)]
    told += [node.id for node in ast.walk(function) if isinstance(node, ast.Name) and isinstance(node.ctx, ast.Store)]
    return told + [node.name for node in ast.walk(function) if isinstance(node, ast.ExceptHandler) and node.name]


def imported_by(name):
    """Pairs of a file and a name that a file imports from it."""
    found = [node for node in TREES[name].body if isinstance(node, ast.ImportFrom) and node.module != "itertools"]
    return [(node.module.split(".")[-1], alias.name) for node in found for alias in node.names]


def defined_in(name):
    """The names that a file defines itself."""
    told = [node.name for node in TREES[name].body if isinstance(node, (ast.FunctionDef, ast.ClassDef))]
    return told + [node.targets[0].id for node in TREES[name].body if isinstance(node, ast.Assign)]


class Files(unittest.TestCase):
    def test_sizes_and_characters(self):
        for name, text in FILES.items():
            self.assertRegex(name, r"^[a-z][a-z0-9]*$|^__init__$")
            self.assertLess(len(text.split("\n")), 400, name)
            for line in text.split("\n"):
                self.assertRegex(line, r"^[ -~]{0,120}$", name)
                self.assertEqual(line, line.rstrip(), name)
        for name, node in functions():
            self.assertLessEqual(node.end_lineno - node.lineno + 1, 40, (name, node.name))

    def test_nothing_else_is_there(self):
        for path in FOLDER.iterdir():
            self.assertTrue(path.suffix == ".py" or path.name == "__pycache__", path)

    def test_module_level(self):
        for name, tree in TREES.items():
            self.assertEqual(len(defined_in(name)), len(set(defined_in(name))), name)
            for node in tree.body:
                self.assertIsInstance(node, (ast.Expr, ast.ImportFrom, ast.FunctionDef, ast.ClassDef, ast.Assign))
                if isinstance(node, ast.Expr):
                    self.assertIsInstance(node.value.value, str)

    def test_imports_name_the_file_that_defines(self):
        self.assertEqual(nodes(ast.Import), [])
        for name, node in nodes(ast.ImportFrom):
            if node.module == "itertools":
                self.assertEqual([alias.name for alias in node.names], ["accumulate"])
                continue
            self.assertRegex(node.module, r"^macroasm\.[a-z]+$")
            self.assertEqual(node.level, 0)
            for alias in node.names:
                self.assertIsNone(alias.asname)
                self.assertIn(alias.name, defined_in(node.module.split(".")[1]), name)

    def test_all_that_is_imported_is_used(self):
        for name, text in FILES.items():
            for _, word in imported_by(name):
                self.assertGreater(len(re.findall(rf"\b{word}\b", text)), 1, (name, word))

    def test_imports_go_one_way(self):
        done = []
        while len(done) < len(FILES):
            free = [name for name in FILES if name not in done and {file for file, _ in imported_by(name)} <= set(done)]
            self.assertTrue(free, done)
            done += free


class Names(unittest.TestCase):
    def test_plain_names(self):
        for name, node in nodes((ast.Name, ast.arg, ast.FunctionDef, ast.ClassDef, ast.Attribute)):
            word = getattr(node, "id", None) or getattr(node, "arg", None) or getattr(node, "attr", None) or node.name
            self.assertNotIn(word, BARRED_NAMES, name)
            self.assertRegex(word, r"^_?[A-Za-z][A-Za-z0-9_]*$|^_$|^__[a-z]+__$", name)
            if not isinstance(node, ast.FunctionDef):
                self.assertRegex(word, r"^(?!__)|^__init__$", name)

    def test_barred_words(self):
        for name, text in FILES.items():
            for word in BARRED:
                self.assertIsNone(re.search(rf"\b{word}\b", text), (name, word))

    def test_names_mean_one_thing(self):
        for name, function in functions():
            barred = [word for _, word in imported_by(name)]
            barred += [node.name for node in TREES[name].body if isinstance(node, ast.ClassDef)]
            for word in bound_in(function):
                self.assertNotIn(word, barred, (name, function.name))
                self.assertFalse(hasattr(builtins, word), (name, word))
        for name in FILES:
            for word in defined_in(name):
                self.assertFalse(hasattr(builtins, word), (name, word))

    def test_generators_have_names_of_their_own(self):
        told = [node.name for _, node in functions()]
        for name, node in functions():
            if any(isinstance(part, (ast.Yield, ast.YieldFrom)) for part in ast.walk(node)):
                self.assertEqual(told.count(node.name), 1, (name, node.name))

    def test_properties_are_no_attributes_or_methods(self):
        properties = [node.name for _, node in functions() if decorators(node) == ["property"]]
        methods = [node.name for _, node in functions() if decorators(node) != ["property"]]
        stored = [node.attr for _, node in nodes(ast.Attribute) if isinstance(node.ctx, ast.Store)]
        for word in properties:
            self.assertNotIn(word, stored)
            self.assertNotIn(word, methods + METHODS)
        for word in methods:
            self.assertNotIn(word, stored)


class Classes(unittest.TestCase):
    def test_what_has_items_is_not_iterated(self):
        for name, node in nodes(ast.ClassDef):
            told = [part.name for part in node.body if isinstance(part, ast.FunctionDef)]
            self.assertEqual("__getitem__" in told, "__iter__" in told, (name, node.name))
            self.assertEqual(len(told), len(set(told)), (name, node.name))

    def test_reflected_methods_stand_alone(self):
        bases = [base.id for _, node in nodes(ast.ClassDef) for base in node.bases]
        for name, node in nodes(ast.ClassDef):
            told = [part.name for part in node.body if isinstance(part, ast.FunctionDef)]
            if "__radd__" in told:
                self.assertEqual((node.bases, node.name in bases), ([], False), name)

    def test_lengths(self):
        for name, node in functions():
            if node.name == "__len__":
                told = [part for part in node.body if not isinstance(part, ast.Expr)]
                self.assertEqual((len(told), told[0].value.func.id), (1, "len"), name)
                self.assertFalse(is_range(told[0].value.args[0]), name)


def is_range(node):
    """Whether a range is made."""
    return isinstance(node, ast.Call) and called(node) == "range"


def decorators(node):
    """The names over a function."""
    return [one.id for one in node.decorator_list]


class Statements(unittest.TestCase):
    def test_what_is_not_used(self):
        barred = (
            ast.AsyncFunctionDef, ast.Await, ast.Global, ast.Nonlocal, ast.With, ast.Lambda, ast.Set, ast.SetComp,
            ast.AnnAssign, ast.Delete, ast.Div, ast.Pow, ast.Mod, ast.Match, ast.NamedExpr,
        )
        for name, node in nodes(barred):
            self.assertIsInstance(node, ast.Pow, (name, getattr(node, "lineno", None)))
        for name, node in nodes(ast.BinOp):
            if isinstance(node.op, ast.Pow):
                self.assertIn(node, [getattr(limit, "value", None) for limit in TREES[name].body], (name, node.lineno))
                self.assertLessEqual(node.right.value, 64)

    def test_steps_are_literal(self):
        for name, node in nodes(ast.AugAssign):
            self.assertIsInstance(node.value, ast.Constant, (name, node.lineno))
            self.assertIsInstance(node.value.value, int, (name, node.lineno))

    def test_constants(self):
        for name, node in nodes(ast.Constant):
            self.assertNotIsInstance(node.value, (float, complex, bytes), name)
            if isinstance(node.value, str):
                self.assertNotIn("%", node.value, name)

    def test_decorators(self):
        for name, node in functions():
            self.assertIn(decorators(node), ([], ["property"], ["classmethod"], ["staticmethod"]), (name, node.name))
        for _, node in nodes(ast.ClassDef):
            self.assertEqual(node.decorator_list, [])

    def test_builtins(self):
        for name, node in nodes(ast.Name):
            if hasattr(builtins, node.id):
                self.assertIn(node.id, BUILTINS, (name, node.lineno))

    def test_methods(self):
        own = [node.name for _, node in functions()]
        for name, node in nodes(ast.Call):
            if isinstance(node.func, ast.Attribute):
                self.assertIn(node.func.attr, METHODS + own, (name, node.lineno))

    def test_not_implemented(self):
        for name, tree in TREES.items():
            alone = []
            for function in ast.walk(tree):
                if isinstance(function, ast.FunctionDef) and function.name in ANSWERING:
                    returned = [node.value for node in ast.walk(function) if isinstance(node, ast.Return)]
                    alone += [value for value in returned if isinstance(value, ast.Name)]
            for node in ast.walk(tree):
                if isinstance(node, ast.Name) and node.id == "NotImplemented":
                    self.assertIn(node, alone, (name, node.lineno))

    def test_is(self):
        for name, node in nodes(ast.Compare):
            for sign, other in zip(node.ops, node.comparators):
                if isinstance(sign, (ast.Is, ast.IsNot)):
                    self.assertIsInstance(other, ast.Constant, (name, node.lineno))

    def test_generator_expressions(self):
        for name, node in nodes(ast.Call):
            for given in node.args:
                if isinstance(given, ast.GeneratorExp):
                    self.assertNotIn(getattr(node.func, "id", None), LISTS_ALONE, (name, node.lineno))

    def test_handlers_and_raises(self):
        for name, node in nodes(ast.ExceptHandler):
            told = node.type.elts if isinstance(node.type, ast.Tuple) else [node.type]
            for one in told:
                self.assertIn(one.id, defined_in("errors"), (name, node.lineno))
        for name, node in nodes(ast.Raise):
            self.assertIsInstance(node.exc, ast.Call, (name, node.lineno))


TAKING = ("list", "tuple", "dict", "sorted", "sum", "any", "all", "enumerate", "zip", "min", "max")


def parents():
    """A dict from the ids of nodes to the nodes around them."""
    return {id(inner): node for tree in TREES.values() for node in ast.walk(tree) for inner in ast.iter_child_nodes(node)}


def is_iterated(node, around):
    """Whether a node is gone over on the spot."""
    outer = around[id(node)]
    if isinstance(outer, (ast.For, ast.comprehension)):
        return outer.iter is node
    if isinstance(outer, ast.Call) and isinstance(outer.func, ast.Name):
        return outer.func.id in TAKING and node in outer.args
    return isinstance(outer, ast.Call) and isinstance(outer.func, ast.Attribute) and outer.func.attr == "join"


def called(node):
    """The name of the function or the method that is called."""
    return getattr(node.func, "id", None) or getattr(node.func, "attr", None)


class Iterating(unittest.TestCase):
    def setUp(self):
        self.around = parents()

    def test_views_and_ranges_are_iterated_at_once(self):
        for name, node in nodes(ast.Call):
            word = called(node)
            outer = self.around[id(node)]
            is_measured = word == "range" and isinstance(outer, ast.Call) and called(outer) in ("len", "reversed")
            if word in ("range", "zip", "enumerate", "reversed", "items", "keys", "values") and not is_measured:
                self.assertTrue(is_iterated(node, self.around), (name, node.lineno))

    def test_generators_are_iterated_at_once(self):
        found = [node for _, node in functions() if any(isinstance(part, (ast.Yield,
            ast.YieldFrom)) for part in ast.walk(node))]
        names = [node.name for node in found]
        for name, node in nodes(ast.Call):
            if called(node) in names:
                is_yielded = isinstance(self.around[id(node)], ast.YieldFrom)
                self.assertTrue(is_yielded or is_iterated(node, self.around), (name, node.lineno))
                for given in [*node.args, *[word.value for word in node.keywords]]:
                    self.assertIsInstance(given, (ast.Name, ast.Attribute, ast.Constant), (name, node.lineno))
        for node in found:
            self.assertFalse([part for part in ast.walk(node) if isinstance(part, (ast.Try, ast.With))], node.name)
            self.assertNotIn(node.name, METHODS)
            self.assertEqual(decorators(node), [])

    def test_stars_in_calls(self):
        for name, node in nodes(ast.Call):
            starred = [at for at, given in enumerate(node.args) if isinstance(given, ast.Starred)]
            for at in starred:
                self.assertIsInstance(node.args[at].value, (ast.Name, ast.Attribute), (name, node.lineno))
                for given in node.args[at + 1:]:
                    self.assertIsInstance(given, (ast.Name, ast.Constant, ast.Tuple), (name, node.lineno))

    def test_sets(self):
        for name, node in nodes(ast.Call):
            if called(node) == "set":
                outer = self.around[id(node)]
                self.assertTrue(isinstance(outer, ast.Call) and called(outer) in ("sorted", "len"), (name, node.lineno))

    def test_what_is_caught_has_a_name_of_its_own(self):
        for name, function in functions():
            told = [node.name for node in ast.walk(function) if isinstance(node, ast.ExceptHandler) and node.name]
            self.assertEqual(len(told), len(set(told)), (name, function.name))

    def test_what_lies_at_module_level_is_only_read(self):
        for name, tree in TREES.items():
            told = [node.targets[0].id for node in tree.body if isinstance(node,
                ast.Assign) and isinstance(node.value, (ast.List, ast.Dict))]
            for node in ast.walk(tree):
                if isinstance(node, ast.Name) and node.id in told and isinstance(node.ctx, ast.Load):
                    outer = self.around[id(node)]
                    is_read = isinstance(outer, (ast.Subscript, ast.Compare, ast.comprehension, ast.For))
                    is_asked = isinstance(outer, ast.Attribute) and outer.attr in ("get", "items", "index")
                    self.assertTrue(is_read or is_asked, (name, node.lineno))
