"""Whether the files of the package keep to the subset of Python that the program is written in."""

import ast
import builtins
import re
import unittest
from pathlib import Path

PACKAGE = Path(__file__).resolve().parent.parent / "bentalike"
FILES = sorted(path for path in PACKAGE.iterdir() if path.name != "__pycache__")
BUILTINS = set(
    "len range enumerate zip min max sum abs sorted reversed int str bool list tuple dict set isinstance ord repr any "
    "all divmod iter next Exception ValueError TypeError KeyError IndexError LookupError ZeroDivisionError".split())
METHODS = set(
    "append clear copy count endswith extend find get index insert isalnum isalpha isdigit islower isspace isupper "
    "items join keys ljust lower lstrip partition pop remove replace reverse rfind rjust rpartition rsplit rstrip "
    "setdefault split splitlines startswith strip update upper values zfill bit_length add discard".split())
LIBRARY = {"math": {"gcd", "lcm", "isqrt", "factorial"}, "heapq": {"heappush", "heappop", "heapify"}}
BARRED_NAMES = set("register mro elements open input law version_info with_traceback add_note attrgetter breakpoint "
                   "builtins compile copyright credits delattr dir eval exec exit gc globals help id importlib license "
                   "locals methodcaller os quit setattr super type vars sys".split())
BARRED_WORDS = re.compile(
    r"\b(type|typing|typing_extensions|enum|Enum|IntEnum|StrEnum|Flag|IntFlag|Generic|Protocol|ABC|ABCMeta|namedtuple|"
    r"NamedTuple|TypedDict|TYPE_CHECKING|abstractmethod)\b|dataclass|overload|contextmanager|_wall|_WallAttr")
AT_ONCE = ("zip", "enumerate", "reversed")
# Some of these are allowed in places; the package does without them throughout.
BARRED_NODES = (
    ast.AsyncFunctionDef, ast.Await, ast.Global, ast.Nonlocal, ast.Yield, ast.YieldFrom, ast.Div, ast.MatMult, ast.Pow,
    ast.Delete, ast.With, ast.Assert, ast.AnnAssign, ast.NamedExpr, ast.Starred)


def trees():
    return [(path, ast.parse(path.read_text(encoding="utf-8"))) for path in FILES]


def functions(tree):
    return [node for node in ast.walk(tree) if isinstance(node, (ast.FunctionDef, ast.Lambda))]


def parameters(function):
    told = function.args
    return [argument.arg for argument in told.posonlyargs + told.args + told.kwonlyargs]


def bound_at_top(tree):
    """The names that a file binds at module level, each as often as it does."""
    names = []
    for node in tree.body:
        if isinstance(node, (ast.FunctionDef, ast.ClassDef)):
            names.append(node.name)
        elif isinstance(node, ast.ImportFrom):
            names += [alias.name for alias in node.names]
        elif isinstance(node, ast.Assign):
            names += [target.id for target in node.targets]
    return names


def own_methods():
    """The methods that the classes of the package define."""
    return {node.name for _, tree in trees() for held in ast.walk(tree) if isinstance(held, ast.ClassDef)
            for node in held.body if isinstance(node, ast.FunctionDef)}


def attributes():
    """The names of what is assigned to objects anywhere in the package."""
    return {node.attr for _, tree in trees() for node in ast.walk(tree)
            if isinstance(node, ast.Attribute) and isinstance(node.ctx, ast.Store)}


def parents(tree):
    return {child: node for node in ast.walk(tree) for child in ast.iter_child_nodes(node)}


class Files(unittest.TestCase):

    def test_the_folder_holds_plainly_named_files_alone(self):
        for path in FILES:
            self.assertRegex(path.name, r"^[a-z_][a-z0-9_]*\.py$")
        self.assertIn("__init__.py", [path.name for path in FILES])

    def test_characters_and_sizes(self):
        for path in FILES:
            text = path.read_text(encoding="utf-8")
            self.assertRegex(text, r"\A[ -~\n]*\Z", path.name)
            self.assertLessEqual(len(text.splitlines()), 399, path.name)
            self.assertLessEqual(max([len(line) for line in text.splitlines()] + [0]), 120, path.name)

    def test_functions_are_short(self):
        for path, tree in trees():
            for node in functions(tree):
                self.assertLessEqual(node.end_lineno - node.lineno + 1, 40, (path.name, node.lineno))


class ModuleLevel(unittest.TestCase):

    def test_only_what_may_stand_there(self):
        for path, tree in trees():
            for index, node in enumerate(tree.body):
                told = isinstance(node, (ast.ImportFrom, ast.FunctionDef, ast.ClassDef, ast.Assign))
                docstring = index == 0 and isinstance(node, ast.Expr) and isinstance(node.value, ast.Constant)
                self.assertTrue(told or docstring, (path.name, node.lineno))

    def test_imports_stand_at_the_top_and_name_the_defining_file(self):
        defined = {}
        for path, tree in trees():
            defined["bentalike." + path.stem] = {
                name for node in tree.body if not isinstance(node, ast.ImportFrom)
                for name in bound_at_top(ast.Module([node], []))}
        for path, tree in trees():
            for node in ast.walk(tree):
                self.assertNotIsInstance(node, ast.Import)
                if isinstance(node, ast.ImportFrom):
                    self.assertEqual((node.level, node.col_offset), (0, 0))
                    known = defined.get(node.module) or LIBRARY[node.module]
                    for alias in node.names:
                        self.assertIn(alias.name, known, path.name)
                        self.assertIsNone(alias.asname)

    def test_imports_are_used_and_come_in_no_circle(self):
        reached = {}
        for path, tree in trees():
            used = {node.id for node in ast.walk(tree) if isinstance(node, ast.Name)}
            imports = [node for node in tree.body if isinstance(node, ast.ImportFrom)]
            for node in imports:
                for alias in node.names:
                    self.assertIn(alias.name, used, path.name)
            reached["bentalike." + path.stem] = {node.module for node in imports}
        while reached:
            free = [name for name, others in reached.items() if not others & set(reached)]
            self.assertTrue(free, "a circle of imports: " + ", ".join(reached))
            for name in free:
                del reached[name]

    def test_each_name_is_bound_once_and_means_nothing_else(self):
        for path, tree in trees():
            top = bound_at_top(tree)
            self.assertEqual(len(top), len(set(top)), path.name)
            for node in functions(tree):
                names = set(parameters(node))
                names |= {inner.id for inner in ast.walk(node)
                          if isinstance(inner, ast.Name) and isinstance(inner.ctx, ast.Store)}
                # The document calls a parameter of `map_of` as the function `code` beside it is called.
                self.assertLessEqual(names & set(top), {"code"}, (path.name, node.lineno))
                self.assertFalse(names & set(dir(builtins)), (path.name, node.lineno))
            self.assertFalse(set(top) & set(dir(builtins)), path.name)


class Expressions(unittest.TestCase):

    def test_no_statement_or_sign_that_is_barred(self):
        for path, tree in trees():
            for node in ast.walk(tree):
                self.assertNotIsInstance(node, BARRED_NODES, (path.name, getattr(node, "lineno", None)))
                if isinstance(node, ast.Constant):
                    self.assertNotIsInstance(node.value, (float, complex, bytes))
                if isinstance(node, (ast.FunctionDef, ast.ClassDef)):
                    self.assertEqual(node.decorator_list, [], path.name)

    def test_names(self):
        for path, tree in trees():
            bound = set(bound_at_top(tree))
            for node in ast.walk(tree):
                if isinstance(node, ast.Name):
                    self.assertNotIn(node.id, BARRED_NAMES, (path.name, node.lineno))
                    self.assertFalse(node.id.startswith("__"), (path.name, node.lineno))
                    if node.id in dir(builtins):
                        self.assertIn(node.id, BUILTINS, (path.name, node.lineno))
                    if node.id == "_":
                        self.assertIsInstance(node.ctx, ast.Store, (path.name, node.lineno))
            self.assertFalse(bound & BARRED_NAMES, path.name)

    def test_methods(self):
        methods = METHODS | own_methods()
        for path, tree in trees():
            for node in ast.walk(tree):
                if isinstance(node, ast.Call) and isinstance(node.func, ast.Attribute):
                    self.assertIn(node.func.attr, methods, (path.name, node.lineno))
                    self.assertEqual(node.keywords, [], (path.name, node.lineno))

    def test_own_methods_and_attributes_are_named_as_nothing_else(self):
        methods = own_methods()
        self.assertEqual({name for name in methods if name.startswith("_")}, {"__init__"})
        for names in (methods, attributes() - {"index"}):
            self.assertFalse(names & METHODS)
            self.assertFalse(names & (BARRED_NAMES | set(dir(builtins))))
        self.assertFalse(methods & attributes())

    def test_attributes_that_are_read_are_assigned(self):
        known = attributes() | own_methods() | METHODS
        for path, tree in trees():
            for node in ast.walk(tree):
                if isinstance(node, ast.Attribute):
                    self.assertIn(node.attr, known, (path.name, node.lineno))

    def test_is_stands_beside_none_true_and_false(self):
        for path, tree in trees():
            for node in ast.walk(tree):
                if isinstance(node, ast.Compare):
                    for sign, right in zip(node.ops, node.comparators):
                        if isinstance(sign, (ast.Is, ast.IsNot)):
                            self.assertTrue(isinstance(right, ast.Constant) and right.value in (None, True, False))

    def test_what_is_iterated_at_once(self):
        for path, tree in trees():
            above = parents(tree)
            for node in ast.walk(tree):
                if isinstance(node, ast.GeneratorExp):
                    self.check_taken(path, node, above[node], "list tuple dict sorted sum min max any all")
                if isinstance(node, ast.Call) and isinstance(node.func, ast.Name) and node.func.id in AT_ONCE:
                    holder = above[node]
                    if not isinstance(holder, (ast.For, ast.comprehension)):
                        self.check_taken(path, node, holder, "list tuple dict sorted sum any all enumerate zip min max")

    def check_taken(self, path, node, holder, takers):
        self.assertIsInstance(holder, ast.Call, (path.name, node.lineno))
        named = isinstance(holder.func, ast.Name) and holder.func.id in takers.split()
        joined = isinstance(holder.func, ast.Attribute) and holder.func.attr == "join"
        self.assertTrue(named or joined, (path.name, node.lineno))

    def test_strings_and_words(self):
        for path, tree in trees():
            text = path.read_text(encoding="utf-8")
            code = re.sub(r'"""(.|\n)*?"""|#.*', "", text)
            self.assertIsNone(BARRED_WORDS.search(code), path.name)
            for node in ast.walk(tree):
                if isinstance(node, ast.Constant) and isinstance(node.value, str):
                    self.assertNotIn("%", node.value, path.name)

    def test_handlers_name_errors(self):
        for path, tree in trees():
            for node in ast.walk(tree):
                if isinstance(node, ast.ExceptHandler):
                    self.assertIsNotNone(node.type, (path.name, node.lineno))
                if isinstance(node, ast.Raise) and node.exc is not None:
                    self.assertIsInstance(node.exc, ast.Call, (path.name, node.lineno))


class Sets(unittest.TestCase):

    def test_a_set_that_is_kept_is_only_added_to_and_asked(self):
        for path, tree in trees():
            for function in functions(tree):
                kept = {node.targets[0].id for node in ast.walk(function)
                        if isinstance(node, ast.Assign) and self.is_set(node.value)}
                above = parents(function)
                for node in ast.walk(function):
                    if isinstance(node, ast.Name) and node.id in kept:
                        self.assertTrue(self.may_stand(node, above[node]), (path.name, node.lineno, node.id))

    def test_any_other_set_stands_in_sorted_or_len_or_behind_in(self):
        for path, tree in trees():
            above = parents(tree)
            for node in ast.walk(tree):
                if self.is_set(node) and not isinstance(above[node], (ast.Assign, ast.Compare, ast.BinOp)):
                    holder = above[node]
                    self.assertTrue(isinstance(holder, ast.Call) and holder.func.id in ("sorted", "len"),
                                    (path.name, node.lineno))

    def is_set(self, node):
        called = isinstance(node, ast.Call) and isinstance(node.func, ast.Name) and node.func.id == "set"
        return called or isinstance(node, (ast.SetComp, ast.Set))

    def may_stand(self, node, holder):
        if isinstance(holder, ast.Call):
            return isinstance(holder.func, ast.Name) and holder.func.id in ("len", "sorted")
        if isinstance(holder, ast.Attribute):
            return holder.attr in ("add", "discard")
        return isinstance(holder, (ast.Assign, ast.Compare, ast.If, ast.While, ast.BoolOp, ast.UnaryOp))


if __name__ == "__main__":
    unittest.main()
