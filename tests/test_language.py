"""The package keeps to the small part of Python that it may use: what of the rules L1 to L28 its rows show.

L9 follows from others: only the package's own files are imported (L2), and no name that reads or prints is used (L8).
"""

import ast
import builtins
import pathlib
import re
import unittest

PACKAGE = pathlib.Path(__file__).resolve().parent.parent / "quartermeters"

STATEMENTS = (
    ast.Assign, ast.AugAssign, ast.If, ast.While, ast.For, ast.Return, ast.Break, ast.Continue, ast.Pass,
    ast.Raise, ast.Try, ast.Expr, ast.FunctionDef,
)
EXPRESSIONS = (
    ast.Constant, ast.List, ast.Tuple, ast.Dict, ast.Set, ast.BinOp, ast.UnaryOp, ast.BoolOp, ast.Compare,
    ast.IfExp, ast.Call, ast.Attribute, ast.Subscript, ast.Slice, ast.ListComp, ast.JoinedStr, ast.FormattedValue,
    ast.Lambda, ast.Name,
)
BUILT_IN = (
    "len range enumerate zip min max sum abs sorted reversed int str bool list tuple dict set frozenset isinstance "
    "ord repr any all divmod Exception ValueError TypeError KeyError IndexError LookupError ZeroDivisionError "
    "ArithmeticError OverflowError RuntimeError NotImplementedError AttributeError StopIteration"
).split()
METHODS = (
    "append clear copy count endswith extend find get index insert isalnum isalpha isdigit islower isspace isupper "
    "items join keys ljust lower lstrip partition pop remove replace reverse rfind rjust rpartition rsplit rstrip "
    "setdefault split splitlines startswith strip update upper values zfill bit_length"
).split()
CHANGING = "append clear extend insert pop remove reverse setdefault update".split()
UNUSED = (
    "register mro elements open input version_info with_traceback add_note attrgetter breakpoint builtins compile "
    "copyright credits delattr dir eval exec exit gc getattr globals hasattr help id importlib license locals "
    "methodcaller os quit setattr super type vars sys"
).split()
WORDS = (
    r"\b(type|typing|typing_extensions|enum|Enum|IntEnum|StrEnum|Flag|IntFlag|Generic|Protocol|ABC|ABCMeta|"
    r"namedtuple|NamedTuple|TypedDict|TYPE_CHECKING|abstractmethod)\b|dataclass|overload|contextmanager"
)
DUNDER = ("__init__", "__eq__", "__repr__", "__str__", "__len__")
WALKED = "zip enumerate reversed range".split()
FRAMES = ("f_", "tb_", "co_", "gi_", "cr_", "ag_")
KEYWORDS = {
    "sorted": ["key", "reverse"], "min": ["key", "default"], "max": ["key", "default"], "sum": ["start"],
    "enumerate": ["start"], "zip": ["strict"],
}
PYTHONS_OWN = {name for kind in (str, int, list, dict, set, bytes, tuple) for name in dir(kind)}


def is_plain(node, functions):
    """A value that may stand at a file's top."""
    if isinstance(node, ast.Name):
        return node.id in functions
    if isinstance(node, ast.UnaryOp):
        return isinstance(node.op, ast.USub) and isinstance(node.operand, ast.Constant)
    if isinstance(node, ast.Dict):
        return all([is_plain(part, functions) for part in node.keys + node.values])
    if isinstance(node, (ast.List, ast.Tuple)):
        return all([is_plain(part, functions) for part in node.elts])
    return isinstance(node, ast.Constant) and isinstance(node.value, (int, str, type(None)))


def bound_names(function):
    """A def's parameters and locals."""
    names = [argument.arg for argument in function.args.args]
    return names + [node.id for node in ast.walk(function)
                    if isinstance(node, ast.Name) and isinstance(node.ctx, ast.Store)]


def in_circles(leads_to):
    """The names from which a way leads into a circle."""
    left = dict(leads_to)
    while True:
        free = [name for name in left if not left[name] & set(left)]
        if not free:
            return sorted(left)
        for name in free:
            del left[name]


class File:
    def __init__(self, path):
        self.name = path.stem
        self.text = path.read_text(encoding="utf-8")
        self.tree = ast.parse(self.text)
        self.nodes = list(ast.walk(self.tree))
        body = self.tree.body
        self.imports = [node for node in body if isinstance(node, ast.ImportFrom)]
        self.imported = [alias.name for node in self.imports for alias in node.names]
        self.defs = [node for node in self.nodes if isinstance(node, ast.FunctionDef)]
        self.classes = [node for node in body if isinstance(node, ast.ClassDef)]
        self.values = {node.targets[0].id: node.value for node in body if isinstance(node, ast.Assign)}
        self.top = [node.name for node in body if isinstance(node, (ast.FunctionDef, ast.ClassDef))] + list(self.values)

    def of(self, kind):
        return [node for node in self.nodes if isinstance(node, kind)]


FILES = [File(path) for path in sorted(PACKAGE.glob("*.py"))]


class Language(unittest.TestCase):
    def each(self, holds, nodes_of):
        """Asks something of nodes of every file; a node it doesn't hold for is told with its row."""
        for file in FILES:
            for node in nodes_of(file):
                row = f"{file.name}:{getattr(node, 'lineno', 0)}"
                with self.subTest(row=row):
                    self.assertTrue(holds(node), row)

    def test_l1_l14_files_and_signs(self):
        names = [path.name for path in PACKAGE.iterdir() if path.name != "__pycache__"]
        self.assertIn("__init__.py", names)
        for name in names:
            self.assertRegex(name, r"^([a-z][a-z0-9_]*|__init__)\.py$")
            self.assertNotIn(name[:-3], dir(builtins))
            self.assertNotRegex(name, r"^(test|site|conftest|sitecustomize|usercustomize)")
            self.assertIsNone(re.search(WORDS, name[:-3]))
        for file in FILES:
            self.assertRegex(file.text, r"\A[ -~\n]*\Z")

    def test_l2_l16_imports(self):
        tops = {f"quartermeters.{file.name}": file.top for file in FILES}
        self.each(lambda node: False, lambda file: file.of(ast.Import))
        self.each(lambda node: node.level == 0 and node.module in tops, lambda file: file.of(ast.ImportFrom))
        self.each(lambda node: all([alias.asname is None and alias.name in tops[node.module] for alias in node.names]),
                  lambda file: file.of(ast.ImportFrom))
        self.each(lambda node: node.col_offset == 0, lambda file: file.of(ast.ImportFrom))

    def test_l16_no_circle(self):
        drawn = {file.name: {node.module.split(".")[-1] for node in file.imports} for file in FILES}
        self.assertEqual(in_circles(drawn), [])

    def test_l3_l15_the_top_of_a_file(self):
        for file in FILES:
            functions = []
            self.assertTrue(ast.get_docstring(file.tree))
            for node in file.tree.body[1:]:
                with self.subTest(row=f"{file.name}:{node.lineno}"):
                    if isinstance(node, ast.Assign):
                        self.assertTrue(is_plain(node.value, functions))
                        parts = [part for part in ast.walk(node.value) if isinstance(part, (ast.List, ast.Dict))]
                        self.assertTrue(all([part is node.value for part in parts]))
                    else:
                        self.assertIsInstance(node, (ast.ImportFrom, ast.FunctionDef, ast.ClassDef))
                    functions.append(getattr(node, "name", None))
            names = file.top + file.imported
            self.assertEqual(len(names), len(set(names)))

    def test_l4_l21_functions(self):
        self.each(lambda node: not node.decorator_list and node.returns is None, lambda file: file.defs)
        self.each(lambda node: not (node.vararg or node.kwarg or node.kwonlyargs or node.posonlyargs),
                  lambda file: file.of(ast.arguments))
        self.each(lambda node: node.annotation is None, lambda file: file.of(ast.arg))

    def test_l5_l18_classes(self):
        self.each(lambda node: not node.decorator_list and len(node.bases) <= 1 and not node.keywords,
                  lambda file: file.of(ast.ClassDef))
        for file in FILES:
            self.assertEqual(file.of(ast.ClassDef), file.classes)
        self.each(lambda node: all([isinstance(part, ast.FunctionDef) for part in node.body]),
                  lambda file: file.classes)
        methods = {part.name for file in FILES for node in file.classes for part in node.body}
        self.assertLessEqual({name for name in methods if name.startswith("__")}, set(DUNDER))
        stored = {node.attr for file in FILES for node in file.of(ast.Attribute) if isinstance(node.ctx, ast.Store)}
        self.assertEqual(methods & stored, set())
        self.assertEqual((stored | methods) & PYTHONS_OWN, {"__init__"})
        self.each(lambda node: isinstance(node.value, ast.Name) and node.value.id.islower(),
                  lambda file: [node for node in file.of(ast.Attribute) if isinstance(node.ctx, ast.Store)])

    def test_l18_a_class_is_only_called(self):
        classes = {node.name for file in FILES for node in file.classes}
        called = {id(node.func) for file in FILES for node in file.of(ast.Call)}
        self.each(lambda node: node.id not in classes or id(node) in called, lambda file: file.of(ast.Name))

    def test_l28_init_gives_back_nothing(self):
        self.each(lambda node: node.name != "__init__" or not [part for part in ast.walk(node)
                                                                if isinstance(part, ast.Return)],
                  lambda file: file.defs)

    def test_l6_statements(self):
        self.each(lambda node: isinstance(node, STATEMENTS + (ast.ImportFrom, ast.ClassDef)),
                  lambda file: file.of(ast.stmt))
        self.each(lambda node: len(node.targets) == 1, lambda file: file.of(ast.Assign))
        self.each(lambda node: not node.orelse, lambda file: file.of((ast.For, ast.While)))
        self.each(lambda node: isinstance(node.value, ast.Call),
                  lambda file: [node for node in file.of(ast.Expr) if node is not file.tree.body[0]])

    def test_l7_l27_expressions(self):
        self.each(lambda node: isinstance(node, EXPRESSIONS), lambda file: file.of(ast.expr))
        self.each(lambda node: isinstance(node.value, (int, str, type(None))), lambda file: file.of(ast.Constant))
        self.each(lambda node: not isinstance(node.op, (ast.Div, ast.MatMult)),
                  lambda file: file.of((ast.BinOp, ast.AugAssign)))
        self.each(lambda node: not isinstance(node.op, ast.Pow) or isinstance(node.right, ast.Constant),
                  lambda file: file.of(ast.BinOp))
        self.each(lambda node: len(node.generators) == 1 and len(node.generators[0].ifs) <= 1,
                  lambda file: file.of(ast.ListComp))
        self.each(lambda node: not isinstance(node.value, str) or "%" not in node.value,
                  lambda file: file.of(ast.Constant))
        for file in FILES:
            self.assertNotIn("\\", file.text)

    def test_l8_l12_l17_names(self):
        self.each(lambda node: node.id in BUILT_IN or not hasattr(builtins, node.id), lambda file: file.of(ast.Name))
        for file in FILES:
            names = [node.id for node in file.of(ast.Name)] + [node.attr for node in file.of(ast.Attribute)]
            names += [node.arg for node in file.of(ast.arg)] + file.top
            for name in names:
                self.assertRegex(name, r"^[A-Za-z][A-Za-z0-9_]*$")
                self.assertNotIn(name, UNUSED)
                self.assertFalse(name.startswith(FRAMES))
            self.assertIsNone(re.search(WORDS, file.text), file.name)

    def test_l10_sizes(self):
        self.each(lambda node: node.end_lineno - node.lineno < 40, lambda file: file.defs)
        for file in FILES:
            rows = file.text.split("\n")
            self.assertLessEqual(len(rows), 400)
            self.assertLessEqual(max([len(row) for row in rows]), 120)

    def test_l11_no_function_comes_back_to_itself(self):
        named = {node.name: {part.id for part in ast.walk(node) if isinstance(part, ast.Name)}
                 for file in FILES for node in file.defs}
        self.assertEqual(in_circles(named), [])

    def test_l13_l19_l24_forms_that_the_package_does_without(self):
        # Each of these has rules of its own; as none is needed, none is looked into.
        self.each(lambda node: False, lambda file: file.of((ast.Lambda, ast.Set, ast.Try, ast.Raise, ast.JoinedStr)))
        self.each(lambda node: node.id not in ("set", "frozenset"), lambda file: file.of(ast.Name))
        for file in FILES:
            at_top = [node for node in file.tree.body if isinstance(node, ast.FunctionDef)]
            methods = [part for node in file.classes for part in node.body]
            self.assertEqual({id(node) for node in file.defs}, {id(node) for node in at_top + methods})

    def test_l15_locals_have_names_of_their_own(self):
        for file in FILES:
            taken = file.imported + file.top + dir(builtins)
            for node in file.defs:
                for name in bound_names(node):
                    with self.subTest(row=f"{file.name}:{node.lineno}"):
                        self.assertNotIn(name, taken)

    def test_l15_what_stands_at_the_top_is_only_read(self):
        for file in FILES:
            kept = [name for name in file.values if isinstance(file.values[name], (ast.List, ast.Dict))]
            read = [node.value for node in file.of(ast.Subscript) if isinstance(node.ctx, ast.Load)]
            for node in file.of(ast.Name):
                if node.id in kept and isinstance(node.ctx, ast.Load):
                    with self.subTest(row=f"{file.name}:{node.lineno}"):
                        self.assertIn(node, read)
            self.assertFalse([name for name in file.imported if name in self.kept_elsewhere()])

    def kept_elsewhere(self):
        return [name for file in FILES for name in file.values if isinstance(file.values[name], (ast.List, ast.Dict))]

    def test_l19_errors(self):
        self.each(lambda node: node.type is not None, lambda file: file.of(ast.ExceptHandler))

    def test_l20_is(self):
        def beside_none(node):
            plain = [isinstance(part, ast.Constant) for part in node.comparators]
            return all(plain) or not [op for op in node.ops if isinstance(op, (ast.Is, ast.IsNot))]
        self.each(beside_none, lambda file: file.of(ast.Compare))

    def test_l22_pythons_own_are_called(self):
        for file in FILES:
            called = {id(node.func) for node in file.of(ast.Call)}
            keys = {id(node.value) for node in file.of(ast.keyword) if node.arg == "key"}
            for node in file.of(ast.Name):
                if node.id in BUILT_IN:
                    with self.subTest(row=f"{file.name}:{node.lineno}"):
                        self.assertIn(id(node), called | keys)

    def test_l22_keywords(self):
        own = {name for file in FILES for name in file.top}
        for file in FILES:
            for node in file.of(ast.Call):
                name = getattr(node.func, "id", None)
                if name not in own:
                    with self.subTest(row=f"{file.name}:{node.lineno}"):
                        self.assertLessEqual({keyword.arg for keyword in node.keywords}, set(KEYWORDS.get(name, [])))

    def test_l23_walked_at_once(self):
        for file in FILES:
            walks = [node.iter for node in file.of((ast.For, ast.comprehension))]
            walks += [node.args[0] for node in file.of(ast.Call) if isinstance(node.func, ast.Name) and node.args
                      and node.func.id in "list tuple dict sorted sum any all enumerate zip min max".split()]
            for node in file.of(ast.Call):
                if isinstance(node.func, ast.Name) and node.func.id in WALKED + ["set"]:
                    with self.subTest(row=f"{file.name}:{node.lineno}"):
                        self.assertIn(node, walks)
                        self.assertNotEqual(node.func.id, "set")
                if isinstance(node.func, ast.Attribute) and node.func.attr in ("items", "keys", "values"):
                    with self.subTest(row=f"{file.name}:{node.lineno}"):
                        self.assertIn(node, walks)

    def test_l23_what_is_walked_is_not_changed(self):
        for file in FILES:
            for loop in file.of(ast.For):
                walked = {ast.unparse(node) for node in ast.walk(loop.iter)
                          if isinstance(node, (ast.Name, ast.Attribute))}
                for node in ast.walk(loop):
                    if isinstance(node, ast.Subscript) and isinstance(node.ctx, ast.Store):
                        self.assertNotIn(ast.unparse(node.value), walked)
                    if isinstance(node, ast.Attribute) and node.attr in CHANGING:
                        self.assertNotIn(ast.unparse(node.value), walked)

    def test_l25_methods(self):
        self.each(lambda node: node.func.attr in METHODS,
                  lambda file: [node for node in file.of(ast.Call) if isinstance(node.func, ast.Attribute)])
        called = {id(node.func) for file in FILES for node in file.of(ast.Call)}
        self.each(lambda node: node.attr not in METHODS or id(node) in called, lambda file: file.of(ast.Attribute))


if __name__ == "__main__":
    unittest.main()
