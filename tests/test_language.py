"""Those of the rules L1 to L28 for the package's files that a look at their trees can tell."""

import ast
import builtins
import os
import re
import unittest

PACKAGE = os.path.join(os.path.dirname(os.path.dirname(os.path.abspath(__file__))), "leaffold")

ERRORS = set("""Exception ValueError TypeError KeyError IndexError LookupError ZeroDivisionError ArithmeticError
    OverflowError RuntimeError NotImplementedError AttributeError StopIteration""".split())
OWN_NAMES = ERRORS | set("""len range enumerate zip min max sum abs sorted reversed int str bool list tuple dict set
    frozenset isinstance ord repr any all divmod""".split())
METHODS = set("""append clear copy count endswith extend find get index insert isalnum isalpha isdigit islower isspace
    isupper items join keys ljust lower lstrip partition pop remove replace reverse rfind rjust rpartition rsplit rstrip
    setdefault split splitlines startswith strip update upper values zfill bit_length""".split())
TAKEN = {name for kind in (str, int, list, tuple, dict, set, frozenset, bytes) for name in vars(kind)} - METHODS
STATEMENTS = (
    ast.FunctionDef, ast.ClassDef, ast.Return, ast.Assign, ast.AugAssign, ast.For, ast.While, ast.If, ast.Raise, ast.Try,
    ast.ImportFrom, ast.Expr, ast.Pass, ast.Break, ast.Continue,
)
OUTSIDE = (
    ast.Div, ast.MatMult, ast.SetComp, ast.DictComp, ast.GeneratorExp, ast.NamedExpr, ast.Starred, ast.Yield,
    ast.YieldFrom, ast.Await, ast.AnnAssign,
)
WORDS = re.compile(
    r"\b(type|typing|typing_extensions|enum|Enum|IntEnum|StrEnum|Flag|IntFlag|Generic|Protocol|ABC|ABCMeta|namedtuple"
    r"|NamedTuple|TypedDict|TYPE_CHECKING|abstractmethod)\b|dataclass|overload|contextmanager")
UNUSED = set("""register mro elements open input version_info with_traceback add_note format format_map chr attrgetter
    breakpoint compile delattr dir eval exec exit getattr globals hasattr help id locals methodcaller quit setattr super
    vars sys""".split())
WALKED = set("zip enumerate reversed range items keys values".split())
WALKERS = set("list tuple dict sorted sum any all enumerate zip".split())
DUNDERS = {"__init__", "__eq__", "__repr__", "__str__", "__len__"}


def package_files():
    return sorted(name for name in os.listdir(PACKAGE) if name != "__pycache__")


def text_of(name):
    with open(os.path.join(PACKAGE, name), encoding="utf-8", newline="") as file:
        return file.read()


def bound_names(tree):
    """Every name that a file binds: names, parameters, defs, classes, imports."""
    for node in ast.walk(tree):
        if isinstance(node, ast.Name) and isinstance(node.ctx, ast.Store):
            yield node.id, node.lineno
        elif isinstance(node, ast.arg):
            yield node.arg, node.lineno
        elif isinstance(node, (ast.FunctionDef, ast.ClassDef)):
            yield node.name, node.lineno
        elif isinstance(node, ast.alias):
            yield node.asname or node.name, node.lineno
        elif isinstance(node, ast.ExceptHandler) and node.name:
            yield node.name, node.lineno


def drawn_from(tree):
    return [node.module for node in ast.walk(tree) if isinstance(node, ast.ImportFrom)]


class Files(unittest.TestCase):
    def setUp(self):
        self.texts = {name: text_of(name) for name in package_files()}
        self.trees = {name: ast.parse(text) for name, text in self.texts.items()}

    def nodes(self, *kinds):
        for name, tree in self.trees.items():
            for node in ast.walk(tree):
                if isinstance(node, kinds):
                    yield node, f"{name}:{getattr(node, 'lineno', '?')}"

    def test_files_and_signs(self):
        """L1, L10, L14, L17."""
        self.assertIn("__init__.py", self.texts)
        for name, text in self.texts.items():
            self.assertRegex(name, r"^[a-z0-9_]+\.py$")
            self.assertRegex(text, r"^[ -~\n]*\Z")
            self.assertLessEqual(len(text.splitlines()), 400, name)
            self.assertIsNone(WORDS.search(text), name)
            for row in text.splitlines():
                self.assertLessEqual(len(row), 120, name)

    def test_imports(self):
        """L2, L16."""
        for name, tree in self.trees.items():
            for node in tree.body:
                if isinstance(node, ast.ImportFrom):
                    self.assertEqual(node.level, 0, name)
                    self.assertTrue(node.module.startswith("leaffold."), name)
                    source = self.trees[node.module[len("leaffold."):] + ".py"]
                    defined = {part.name for part in source.body if isinstance(part, (ast.FunctionDef, ast.ClassDef))}
                    defined |= {part.targets[0].id for part in source.body if isinstance(part, ast.Assign)}
                    for alias in node.names:
                        self.assertIn(alias.name, defined, name)
            top = [node for node in tree.body if isinstance(node, ast.ImportFrom)]
            self.assertEqual(len(top), len(drawn_from(tree)), name)
        self.assertEqual(drawn_from(self.trees["__init__.py"]), [])

    def test_no_two_files_draw_from_one_another(self):
        """L16."""
        draws = {f"leaffold.{name[:-3]}": drawn_from(tree) for name, tree in self.trees.items()}
        while draws:
            free = [name for name, sources in draws.items() if not any(source in draws for source in sources)]
            self.assertTrue(free, draws)
            for name in free:
                del draws[name]

    def test_statements_and_expressions(self):
        """L4, L6, L7, L20, L21."""
        for node, where in self.nodes(ast.stmt):
            self.assertIsInstance(node, STATEMENTS, where)
        for node, where in self.nodes(*OUTSIDE):
            self.fail(f"{where}: {node}")
        for node, where in self.nodes(ast.Assign):
            self.assertEqual(len(node.targets), 1, where)
        for node, where in self.nodes(ast.For, ast.While, ast.Try):
            self.assertEqual(getattr(node, "finalbody", []), [], where)
            if not isinstance(node, ast.Try):
                self.assertEqual(node.orelse, [], where)
        for node, where in self.nodes(ast.ListComp):
            self.assertEqual(len(node.generators), 1, where)
            self.assertLessEqual(len(node.generators[0].ifs), 1, where)
        for node, where in self.nodes(ast.Constant):
            self.assertNotIsInstance(node.value, (float, bytes, complex), where)
            if isinstance(node.value, str):
                self.assertNotIn("%", node.value, where)
        for node, where in self.nodes(ast.Compare):
            for operator, right in zip(node.ops, node.comparators):
                if isinstance(operator, (ast.Is, ast.IsNot)):
                    self.assertIsInstance(right, ast.Constant, where)

    def test_a_value_by_itself_is_a_call(self):
        """L3, L6."""
        for name, tree in self.trees.items():
            for node in ast.walk(tree):
                if isinstance(node, ast.Expr) and node is not tree.body[0]:
                    self.assertIsInstance(node.value, ast.Call, f"{name}:{node.lineno}")
            self.assertIsNotNone(ast.get_docstring(tree), name)

    def test_functions_and_classes(self):
        """L4, L5, L10, L18."""
        for node, where in self.nodes(ast.FunctionDef):
            self.assertEqual(node.decorator_list, [], where)
            self.assertLessEqual(node.end_lineno - node.lineno + 1, 40, where)
            self.assertIsNone(node.args.vararg or node.args.kwarg, where)
            self.assertEqual(node.args.kwonlyargs + node.args.posonlyargs, [], where)
        for node, where in self.nodes(ast.ClassDef):
            self.assertEqual((node.decorator_list, node.keywords), ([], []), where)
            self.assertLessEqual(len(node.bases), 1, where)
            for part in node.body:
                self.assertIsInstance(part, (ast.FunctionDef, ast.Pass), where)
        methods = {part.name for node, _ in self.nodes(ast.ClassDef) for part in node.body
                   if isinstance(part, ast.FunctionDef)}
        for node, where in self.nodes(ast.Attribute):
            if isinstance(node.ctx, ast.Store):
                self.assertNotIn(node.attr, methods, where)

    def test_names(self):
        """L8, L12, L15, L17, L25, L26."""
        for name, tree in self.trees.items():
            bound = list(bound_names(tree))
            for word, line in bound:
                where = f"{name}:{line}"
                self.assertNotIn(word, UNUSED, where)
                if word not in DUNDERS:
                    self.assertRegex(word, r"^[A-Za-z][A-Za-z0-9_]*$", where)
                    self.assertFalse(hasattr(builtins, word), f"{where}: {word}")
            known = {word for word, line in bound} | OWN_NAMES
            for node in ast.walk(tree):
                if isinstance(node, ast.Name):
                    self.assertIn(node.id, known, f"{name}:{node.lineno}")
                elif isinstance(node, ast.Attribute):
                    self.assertNotIn(node.attr, UNUSED | TAKEN, f"{name}:{node.lineno}")

    def test_plain_values_at_the_top(self):
        """L3, L15."""
        for name, tree in self.trees.items():
            for node in tree.body:
                if isinstance(node, ast.Assign):
                    where = f"{name}:{node.lineno}"
                    # Raises where the value is not written out.
                    ast.literal_eval(node.value)
                    inner = [part for part in ast.walk(node.value) if part is not node.value]
                    self.assertFalse([part for part in inner if isinstance(part, (ast.List, ast.Dict))], where)

    def test_lists_and_dicts_of_the_top_are_only_read(self):
        """L15: by an index or beside `in`, as far as the program needs it."""
        for name, tree in self.trees.items():
            kept = {node.targets[0].id for node in tree.body
                    if isinstance(node, ast.Assign) and isinstance(node.value, (ast.List, ast.Dict))}
            read = set()
            for node in ast.walk(tree):
                if isinstance(node, ast.Subscript) and isinstance(node.ctx, ast.Load):
                    read.add(node.value)
                elif isinstance(node, ast.Compare):
                    read.update(node.comparators)
            for node in ast.walk(tree):
                if isinstance(node, ast.Name) and isinstance(node.ctx, ast.Load) and node.id in kept:
                    self.assertIn(node, read, f"{name}:{node.lineno}")

    def test_walked_at_once(self):
        """L23, L24."""
        for name, tree in self.trees.items():
            walked = set()
            for node in ast.walk(tree):
                if isinstance(node, (ast.For, ast.comprehension)):
                    walked.add(node.iter)
                elif isinstance(node, ast.Call) and isinstance(node.func, ast.Name) and node.func.id in WALKERS:
                    walked.update(node.args[:1])
            for node in ast.walk(tree):
                self.assertNotIsInstance(node, ast.Set, name)
                if isinstance(node, ast.Call):
                    called = getattr(node.func, "id", getattr(node.func, "attr", ""))
                    self.assertNotIn(called, ("set", "frozenset"), f"{name}:{node.lineno}")
                    if called in WALKED:
                        self.assertIn(node, walked, f"{name}:{node.lineno}")

    def test_each_name_once_at_the_top(self):
        """L15."""
        for name, tree in self.trees.items():
            found = []
            for node in tree.body:
                if isinstance(node, (ast.FunctionDef, ast.ClassDef)):
                    found.append(node.name)
                elif isinstance(node, ast.Assign):
                    found.append(node.targets[0].id)
                elif isinstance(node, ast.ImportFrom):
                    found += [alias.name for alias in node.names]
            self.assertEqual(len(found), len(set(found)), name)


if __name__ == "__main__":
    unittest.main()
