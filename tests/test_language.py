"""The package's files held against the rules of its language that a look at the code can tell."""

import ast
import builtins
import pathlib
import re
import unittest

PACKAGE = pathlib.Path(__file__).resolve().parent.parent / "payinglists"

STATEMENTS = (ast.Assign, ast.AugAssign, ast.If, ast.While, ast.For, ast.Return, ast.Break, ast.Continue, ast.Pass,
              ast.Raise, ast.Try, ast.Expr, ast.FunctionDef, ast.ClassDef, ast.ImportFrom)
EXPRESSIONS = (ast.Constant, ast.Name, ast.List, ast.Tuple, ast.Dict, ast.BinOp, ast.UnaryOp, ast.BoolOp, ast.Compare,
               ast.IfExp, ast.Call, ast.Attribute, ast.Subscript, ast.Slice, ast.ListComp, ast.Lambda)
OWN_NAMES = set("""len range enumerate zip min max sum abs sorted reversed int str bool list tuple dict set frozenset
    isinstance ord repr any all divmod Exception ValueError TypeError KeyError IndexError LookupError ZeroDivisionError
    ArithmeticError OverflowError RuntimeError NotImplementedError StopIteration""".split())
METHODS = set("""append clear copy count endswith extend find get index insert isalnum isalpha isdigit islower isspace
    isupper items join keys ljust lower lstrip partition pop remove replace reverse rfind rjust rpartition rsplit rstrip
    setdefault split splitlines startswith strip update upper values zfill bit_length""".split())
WORDS = re.compile(r"\b(type|typing|typing_extensions|enum|Enum|IntEnum|StrEnum|Flag|IntFlag|Generic|Protocol|ABC|ABCMeta|"
                   r"namedtuple|NamedTuple|TypedDict|TYPE_CHECKING|abstractmethod)\b|dataclass|overload|contextmanager")
UNUSED = set("""register mro elements open input version_info with_traceback add_note format format_map""".split())
PYTHONS_OWN = set(dir(builtins))
VALUES_OWN = set(dir(str) + dir(int) + dir(list) + dir(dict) + dir(set) + dir(bytes) + dir(tuple))


def trees():
    return {path: ast.parse(path.read_text(encoding="ascii")) for path in sorted(PACKAGE.glob("*.py"))}


def walk(kind):
    for path, tree in trees().items():
        for node in ast.walk(tree):
            if isinstance(node, kind):
                yield f"{path.name}:{getattr(node, 'lineno', 0)}", node


def methods_of(tree):
    for node in ast.walk(tree):
        if isinstance(node, ast.ClassDef):
            for item in node.body:
                if isinstance(item, ast.FunctionDef):
                    yield item.name


class Files(unittest.TestCase):
    def test_only_python_files_lie_in_the_package(self):
        found = [path.name for path in PACKAGE.iterdir() if path.name != "__pycache__"]
        self.assertIn("__init__.py", found)
        for name in found:
            self.assertRegex(name, r"^[a-z0-9_]+\.py$")
            self.assertNotIn(name[:-3], PYTHONS_OWN)

    def test_signs_lines_and_words(self):
        for path in PACKAGE.glob("*.py"):
            signs = path.read_bytes()
            self.assertTrue(all(sign == 10 or 32 <= sign <= 126 for sign in signs), path.name)
            lines = signs.decode("ascii").split("\n")
            self.assertLessEqual(len(lines), 400, path.name)
            self.assertLessEqual(max(len(line) for line in lines), 120, path.name)
            self.assertIsNone(WORDS.search(signs.decode("ascii")), path.name)

    def test_functions_are_short(self):
        for place, node in walk(ast.FunctionDef):
            self.assertLessEqual(node.end_lineno - node.lineno + 1, 40, place)

    def test_imports_name_what_another_file_defines_and_go_in_no_round(self):
        drawn = {}
        for path, tree in trees().items():
            drawn[path.stem] = []
            for node in ast.walk(tree):
                if isinstance(node, ast.ImportFrom):
                    self.assertRegex(node.module, r"^payinglists\.[a-z_]+$")
                    source = node.module.split(".")[1]
                    defined = ast.parse((PACKAGE / f"{source}.py").read_text())
                    names = [item.name for item in defined.body if isinstance(item, (ast.FunctionDef, ast.ClassDef))]
                    names += [item.targets[0].id for item in defined.body if isinstance(item, ast.Assign)]
                    self.assertTrue(all(alias.name in names and alias.asname is None for alias in node.names))
                    drawn[path.stem].append(source)
        while drawn:
            free = [stem for stem, sources in drawn.items() if not any(source in drawn for source in sources)]
            self.assertTrue(free, drawn)
            drawn = {stem: sources for stem, sources in drawn.items() if stem not in free}


class Code(unittest.TestCase):
    def test_statements_and_expressions(self):
        for place, node in walk(ast.stmt):
            self.assertIsInstance(node, STATEMENTS, place)
            self.assertFalse(getattr(node, "orelse", None) and isinstance(node, (ast.For, ast.While)), place)
            self.assertFalse(getattr(node, "finalbody", None), place)
            if isinstance(node, ast.Assign):
                self.assertEqual(len(node.targets), 1, place)
                self.assertIsInstance(node.targets[0], (ast.Name, ast.Attribute, ast.Subscript), place)
        for place, node in walk(ast.expr):
            self.assertIsInstance(node, EXPRESSIONS, place)
            if isinstance(node, ast.Constant):
                self.assertIn(type(node.value), (int, str, bool, type(None)), place)
                self.assertNotIn("%", str(node.value), place)
            if isinstance(node, ast.ListComp):
                self.assertEqual(len(node.generators), 1, place)
                self.assertLessEqual(len(node.generators[0].ifs), 1, place)
        for place, node in walk((ast.Div, ast.Is, ast.IsNot, ast.Pow)):
            self.fail(f"{node} is not used")

    def test_a_text_by_itself_stands_at_a_files_top_alone(self):
        for path, tree in trees().items():
            self.assertIsNotNone(ast.get_docstring(tree), path.name)
            for node in ast.walk(tree):
                if isinstance(node, ast.Expr) and node is not tree.body[0]:
                    self.assertIsInstance(node.value, ast.Call, f"{path.name}:{node.lineno}")

    def test_functions_and_classes_are_plain(self):
        for place, node in walk(ast.FunctionDef):
            given = node.args
            self.assertFalse(node.decorator_list or given.vararg or given.kwarg or given.kwonlyargs, place)
            self.assertFalse(given.posonlyargs or node.returns, place)
            self.assertTrue(all(given_one.annotation is None for given_one in given.args), place)
        for place, node in walk(ast.ClassDef):
            self.assertFalse(node.decorator_list or node.keywords or len(node.bases) > 1, place)
            self.assertTrue(all(isinstance(item, (ast.FunctionDef, ast.Pass)) for item in node.body), place)

    def test_pythons_own_names(self):
        for path, tree in trees().items():
            top = {alias.name for node in tree.body if isinstance(node, ast.ImportFrom) for alias in node.names}
            top |= {node.name for node in tree.body if isinstance(node, ast.ClassDef)}
            for node in ast.walk(tree):
                place = f"{path.name}:{getattr(node, 'lineno', 0)}"
                if isinstance(node, ast.Name):
                    self.assertNotIn(node.id, UNUSED, place)
                    self.assertFalse(node.id.startswith("_"), place)
                    if isinstance(node.ctx, ast.Load):
                        self.assertFalse(node.id in PYTHONS_OWN - OWN_NAMES, place)
                    else:
                        self.assertNotIn(node.id, PYTHONS_OWN | top, place)
                if isinstance(node, ast.arg):
                    self.assertNotIn(node.arg, PYTHONS_OWN | top | UNUSED, place)
                    self.assertFalse(node.arg.startswith("_"), place)

    def test_methods_and_values(self):
        methods = {name for tree in trees().values() for name in methods_of(tree)} - {"__init__"}
        stored = {node.attr for _, node in walk(ast.Attribute) if isinstance(node.ctx, ast.Store)}
        self.assertEqual(methods & stored, set())
        self.assertEqual((methods | stored) & (VALUES_OWN | UNUSED), set())
        called = {node.func.attr for _, node in walk(ast.Call) if isinstance(node.func, ast.Attribute)}
        self.assertEqual(called - methods - METHODS, set())
        read = {node.attr for _, node in walk(ast.Attribute)}
        self.assertEqual(read - stored - methods - METHODS, set())

    def test_names_of_a_files_top_are_bound_once_to_plain_values(self):
        for path, tree in trees().items():
            bound = [node.targets[0].id for node in tree.body if isinstance(node, ast.Assign)]
            bound += [node.name for node in tree.body if isinstance(node, (ast.FunctionDef, ast.ClassDef))]
            bound += [alias.name for node in tree.body if isinstance(node, ast.ImportFrom) for alias in node.names]
            self.assertEqual(len(bound), len(set(bound)), path.name)
            defined = []
            for node in tree.body:
                if isinstance(node, ast.FunctionDef):
                    defined.append(node.name)
                if isinstance(node, ast.Assign):
                    for part in ast.walk(node.value):
                        self.assertNotIsInstance(part, (ast.Call, ast.Attribute, ast.Subscript), path.name)
                        self.assertTrue(not isinstance(part, ast.Name) or part.id in defined, path.name)


if __name__ == "__main__":
    unittest.main()
