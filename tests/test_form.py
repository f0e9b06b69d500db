"""What of LANGUAGE.md can be seen by a short look at the files of the package."""

import ast
import builtins
import os
import re
import unittest

ROOT = os.path.dirname(os.path.dirname(os.path.abspath(__file__)))
PACKAGE = os.path.join(ROOT, "allendless")

METHODS = """append clear copy count endswith extend find get index insert isalnum isalpha isdigit islower isspace
isupper items join keys ljust lower lstrip partition pop remove replace reverse rfind rjust rpartition rsplit rstrip
setdefault split splitlines startswith strip update upper values zfill bit_length""".split()
CHANGING = "append clear extend insert pop remove reverse setdefault update sort".split()
BUILTINS = """len range enumerate zip min max sum abs sorted reversed int str bool list tuple dict set isinstance ord
repr any all divmod ValueError KeyError NotImplemented""".split()
BARRED = """type typing typing_extensions enum Enum IntEnum StrEnum Flag IntFlag Generic Protocol ABC ABCMeta
namedtuple NamedTuple TypedDict TYPE_CHECKING abstractmethod dataclass overload contextmanager""".split()
UNUSED = "register mro elements open input law version_info with_traceback add_note compile copyright dir eval exec exit \
gc globals help id importlib license locals os quit setattr super vars type getattr hasattr attrgetter".split()
DUNDERS = "__init__ __eq__ __ne__ __len__ __enter__ __exit__ __class__ __name__".split()
LIBRARY = {"heapq": ("heappush", "heappop"), "math": ("gcd", "lcm", "isqrt"), "itertools": ("combinations", "product")}
NODES = (
    ast.Module, ast.Expr, ast.Constant, ast.ImportFrom, ast.alias, ast.FunctionDef, ast.ClassDef, ast.arguments, ast.arg,
    ast.Assign, ast.AugAssign, ast.If, ast.While, ast.For, ast.Return, ast.Break, ast.Continue, ast.Raise, ast.Delete,
    ast.Try, ast.ExceptHandler, ast.Name, ast.Attribute, ast.Subscript, ast.Slice, ast.Call, ast.Tuple, ast.List,
    ast.Dict, ast.ListComp, ast.DictComp, ast.comprehension, ast.BinOp, ast.UnaryOp, ast.BoolOp, ast.Compare, ast.IfExp,
    ast.JoinedStr, ast.FormattedValue, ast.Starred, ast.operator, ast.unaryop, ast.boolop, ast.cmpop, ast.expr_context,
    ast.Pass, ast.keyword, ast.Lambda,
)
KEYWORDS = {"sorted": ("key", "reverse"), "min": ("key", "default"), "max": ("key", "default"), "sum": ("start",)}


def files():
    return sorted(os.listdir(PACKAGE))


def source(name):
    with open(os.path.join(PACKAGE, name), encoding="utf-8") as held:
        return held.read()


def trees():
    return [(name, ast.parse(source(name))) for name in sources()]


def sources():
    return [name for name in files() if name.endswith(".py")]


def bound_in(function):
    """Parameters and variables of a function, those of nested functions too."""
    names = []
    for node in ast.walk(function):
        if isinstance(node, ast.arg):
            names.append(node.arg)
        elif isinstance(node, ast.Name) and isinstance(node.ctx, ast.Store):
            names.append(node.id)
        elif isinstance(node, ast.FunctionDef) and node is not function:
            names.append(node.name)
    return names


class FormTest(unittest.TestCase):
    def test_files(self):
        self.assertEqual([name for name in files() if not name.endswith(".py") and name != "__pycache__"], [])
        for name in sources():
            text = source(name)
            rows = text.split("\n")
            self.assertLessEqual(len(rows) - 1, 399, name)
            for row in rows:
                self.assertLessEqual(len(row), 120, name)
                self.assertTrue(all(" " <= sign <= "~" for sign in row), (name, row))
            self.assertTrue(re.fullmatch(r"[a-z_]+\.py", name))

    def test_functions_are_short(self):
        for name, tree in trees():
            for node in ast.walk(tree):
                if isinstance(node, ast.FunctionDef):
                    self.assertLessEqual(node.end_lineno - node.lineno + 1, 40, (name, node.name))
                    self.assertEqual(node.decorator_list, [])

    def test_nodes(self):
        for name, tree in trees():
            for node in ast.walk(tree):
                self.assertIsInstance(node, NODES, (name, getattr(node, "lineno", 0)))

    def test_module_level(self):
        allowed = (ast.Expr, ast.ImportFrom, ast.FunctionDef, ast.ClassDef, ast.Assign)
        for name, tree in trees():
            bound = []
            for node in tree.body:
                self.assertIsInstance(node, allowed)
                if isinstance(node, (ast.FunctionDef, ast.ClassDef)):
                    bound.append(node.name)
                elif isinstance(node, ast.ImportFrom):
                    for alias in node.names:
                        own = node.module.startswith("allendless.")
                        self.assertTrue(own or alias.name in LIBRARY.get(node.module, ()), (name, alias.name))
                    bound.extend(alias.name for alias in node.names)
                elif isinstance(node, ast.Assign):
                    self.assertEqual(len(node.targets), 1)
                    bound.append(node.targets[0].id)
                    if isinstance(node.value, (ast.Dict, ast.List, ast.Tuple)):
                        inner = list(ast.walk(node.value))[1:]
                        self.assertFalse(any(isinstance(part, (ast.Dict, ast.List, ast.Set)) for part in inner), name)
                else:
                    self.assertIsInstance(node.value, ast.Constant)
            self.assertEqual(len(bound), len(set(bound)), name)
            self.assertFalse(set(bound) & set(dir(builtins)), name)
            self.check_locals(name, tree, bound)

    def check_locals(self, name, tree, bound):
        barred = [node.name for node in tree.body if isinstance(node, ast.ClassDef)]
        for node in tree.body:
            if isinstance(node, ast.ImportFrom):
                barred.extend(alias.name for alias in node.names)
        for node in ast.walk(tree):
            if isinstance(node, ast.FunctionDef):
                for word in bound_in(node):
                    self.assertNotIn(word, barred, (name, node.name))
                    self.assertNotIn(word, dir(builtins), (name, node.name))

    def test_imports_are_used_and_make_no_ring(self):
        needs = {}
        for name, tree in trees():
            used = {node.id for node in ast.walk(tree) if isinstance(node, ast.Name)}
            needs[name[:-3]] = []
            for node in tree.body:
                if isinstance(node, ast.ImportFrom):
                    for alias in node.names:
                        self.assertIn(alias.name, used, name)
                        self.assertIsNone(alias.asname)
                    if node.module in LIBRARY:
                        continue
                    needs[name[:-3]].append(node.module.split(".")[1])
                    for alias in node.names:
                        self.assertTrue(defines(node.module.split(".")[1] + ".py", alias.name), (name, alias.name))
        done = set()
        while len(done) < len(needs):
            ready = [name for name in needs if name not in done and all(need in done for need in needs[name])]
            self.assertTrue(ready)
            done.update(ready)

    def test_words(self):
        for name, tree in trees():
            for node in ast.walk(tree):
                words = []
                if isinstance(node, ast.Name):
                    words = [node.id]
                elif isinstance(node, ast.Attribute):
                    words = [node.attr]
                elif isinstance(node, ast.arg):
                    words = [node.arg]
                elif isinstance(node, (ast.FunctionDef, ast.ClassDef)):
                    words = [node.name]
                elif isinstance(node, ast.Constant) and isinstance(node.value, str):
                    self.assertNotIn("%", node.value, name)
                    words = [] if "\n" in node.value or " " in node.value else [node.value]
                for word in words:
                    self.assertNotIn(word, BARRED + UNUSED, (name, node.lineno))
                    self.assertFalse(word.startswith("__") and word not in DUNDERS, (name, word))

    def test_builtins_and_methods(self):
        own = set()
        for _, tree in trees():
            for node in ast.walk(tree):
                if isinstance(node, ast.ClassDef):
                    own.update(part.name for part in node.body if isinstance(part, ast.FunctionDef))
        for name, tree in trees():
            for node in ast.walk(tree):
                if isinstance(node, ast.Name) and node.id in dir(builtins):
                    self.assertIn(node.id, BUILTINS, (name, node.lineno))
                if isinstance(node, ast.Call) and isinstance(node.func, ast.Attribute):
                    self.assertTrue(node.func.attr in METHODS or node.func.attr in own, (name, node.func.attr))

    def test_keywords(self):
        for name, tree in trees():
            for node in ast.walk(tree):
                if isinstance(node, ast.Call):
                    for held in node.keywords:
                        self.assertIsInstance(node.func, ast.Name, (name, node.lineno))
                        self.assertIn(held.arg, KEYWORDS.get(node.func.id, ()), (name, node.lineno))
                if isinstance(node, ast.Call) and isinstance(node.func, ast.Name) and node.func.id in ("combinations", "product"):
                    for part in node.args:
                        self.assertNotIsInstance(part, (ast.Tuple, ast.Starred), (name, node.lineno))

    def test_loops_change_nothing_that_they_go_over(self):
        for name, tree in trees():
            for node in ast.walk(tree):
                if isinstance(node, ast.For):
                    over = {ast.unparse(part) for part in ast.walk(node.iter) if isinstance(part, (ast.Name, ast.Attribute))}
                    for part in ast.walk(node):
                        if isinstance(part, ast.Call) and isinstance(part.func, ast.Attribute):
                            if part.func.attr in CHANGING:
                                self.assertNotIn(ast.unparse(part.func.value), over, (name, part.lineno))

    def test_comparisons_by_is(self):
        for name, tree in trees():
            for node in ast.walk(tree):
                if isinstance(node, ast.Compare):
                    for sign, side in zip(node.ops, node.comparators):
                        if isinstance(sign, (ast.Is, ast.IsNot)):
                            self.assertTrue(isinstance(side, ast.Constant) and side.value in (None, True, False), name)


    def test_special_methods(self):
        for name, tree in trees():
            for node in ast.walk(tree):
                if isinstance(node, ast.ClassDef):
                    methods = {part.name: part for part in node.body if isinstance(part, ast.FunctionDef)}
                    if "__exit__" in methods:
                        self.check_exit(methods["__exit__"])
                    for word in ("__eq__", "__ne__"):
                        if word in methods:
                            self.assertEqual(len(methods[word].body), 2)
                            self.assertEqual(ast.unparse(methods[word].body[0]),
                                             f"if not isinstance(other, {node.name}):\n    return NotImplemented")
                elif isinstance(node, ast.Attribute) and node.attr == "__name__":
                    self.assertEqual(ast.unparse(node), "self.__class__.__name__")
                elif isinstance(node, ast.Compare) and name != "session.py":
                    self.assertNotIn("session", ast.unparse(node))
                # As a class has == and len, these take lists.
                elif isinstance(node, ast.GeneratorExp):
                    self.fail((name, node.lineno))

    def check_exit(self, method):
        """A method that is left by errors assigns attributes to attributes alone."""
        for row in method.body:
            self.assertIsInstance(row, ast.Assign)
            self.assertIsInstance(row.value, ast.Attribute)
            self.assertEqual(len(row.targets), 1)


def defines(name, word):
    for node in ast.parse(source(name)).body:
        if isinstance(node, (ast.FunctionDef, ast.ClassDef)) and node.name == word:
            return True
        if isinstance(node, ast.Assign) and node.targets[0].id == word:
            return True
    return False


if __name__ == "__main__":
    unittest.main()
