"""That the package keeps to its subset of Python, as far as the files themselves show it."""

import ast
import builtins
import re
import unittest
from pathlib import Path

PACKAGE = Path(__file__).resolve().parent.parent / "pulledpegs"

BUILTINS = set("""len range enumerate zip min max sum abs sorted reversed int str bool list tuple dict set isinstance ord repr any
    all divmod Exception ValueError TypeError KeyError IndexError LookupError ZeroDivisionError""".split())

METHODS = set("""append clear copy count endswith extend find get index insert isalnum isalpha isdigit islower isspace isupper
    items join keys ljust lower lstrip partition pop remove replace reverse rfind rjust rpartition rsplit rstrip setdefault
    split splitlines startswith strip update upper values zfill bit_length isascii isdecimal isnumeric removeprefix
    removesuffix add discard""".split())

BARRED_NAMES = set("""register mro elements open input law version_info with_traceback add_note attrgetter breakpoint builtins
    compile copyright credits delattr dir eval exec exit gc getattr globals hasattr help id importlib license locals
    methodcaller os quit setattr super type vars sys""".split())

BARRED_WORDS = re.compile(r"\b(type|typing|typing_extensions|enum|Enum|IntEnum|StrEnum|Flag|IntFlag|Generic|Protocol|ABC|ABCMeta|"
                          r"namedtuple|NamedTuple|TypedDict|TYPE_CHECKING|abstractmethod)\b|dataclass|overload|contextmanager|_wall\b")

# Files of the library, and what may be imported from them.
LIBRARY = {"math": ("factorial",)}

STATEMENTS = (ast.FunctionDef, ast.ClassDef, ast.Assign, ast.AugAssign, ast.If, ast.While, ast.For, ast.Return, ast.Break,
              ast.Continue, ast.Pass, ast.Raise, ast.Assert, ast.Delete, ast.Try, ast.ImportFrom, ast.Expr)

BARRED_NODES = (ast.Lambda, ast.Await, ast.Yield, ast.YieldFrom, ast.SetComp, ast.GeneratorExp, ast.NamedExpr, ast.Div,
                ast.Global, ast.Nonlocal, ast.Starred, ast.AsyncFunctionDef, ast.With, ast.Match, ast.MatMult)


def files():
    return sorted(PACKAGE.glob("*.py"))


def is_docstring(node, parent):
    return isinstance(node, ast.Expr) and isinstance(node.value, ast.Constant) and node is parent.body[0]


class Language(unittest.TestCase):
    def trees(self):
        for path in files():
            yield path.name, ast.parse(path.read_text(encoding="utf-8"))

    def nodes(self, *kinds):
        for name, tree in self.trees():
            for node in ast.walk(tree):
                if isinstance(node, kinds):
                    yield f"{name}:{getattr(node, 'lineno', 0)}", node

    def test_files(self):
        for path in PACKAGE.iterdir():
            if path.name != "__pycache__":
                self.assertRegex(path.name, r"^[a-z0-9_]+\.py$")
        self.assertTrue((PACKAGE / "__init__.py").exists())

    def test_lines(self):
        for path in files():
            text = path.read_text(encoding="utf-8")
            self.assertRegex(text, r"\A[\n -~]*\Z", path.name)
            lines = text.split("\n")
            self.assertLessEqual(len(lines), 399, path.name)
            for line in lines:
                self.assertLessEqual(len(line), 120, path.name)

    def test_function_lines(self):
        for place, node in self.nodes(ast.FunctionDef):
            self.assertLessEqual(node.end_lineno - node.lineno + 1, 40, place)
            self.assertEqual(node.decorator_list, [], place)

    def test_statements(self):
        for place, node in self.nodes(ast.stmt):
            self.assertIsInstance(node, STATEMENTS, place)
            self.assertNotIsInstance(node, BARRED_NODES, place)
        for place, node in self.nodes(*BARRED_NODES):
            self.fail(place)

    def test_module_level(self):
        for name, tree in self.trees():
            bound = []
            for node in tree.body:
                if isinstance(node, ast.ImportFrom):
                    bound += [alias.name for alias in node.names]
                elif isinstance(node, (ast.FunctionDef, ast.ClassDef)):
                    bound.append(node.name)
                elif isinstance(node, ast.Assign):
                    self.assertIsInstance(node.value, (ast.Constant, ast.Tuple, ast.List, ast.Dict), name)
                    bound += [target.id for target in node.targets]
                else:
                    self.assertTrue(is_docstring(node, tree), name)
            self.assertEqual(len(bound), len(set(bound)), name)
            for place, node in self.nodes(ast.FunctionDef):
                if place.startswith(name + ":"):
                    imported = [alias.name for line in tree.body if isinstance(line, ast.ImportFrom) for alias in line.names]
                    for part in ast.walk(node):
                        if isinstance(part, ast.Name) and isinstance(part.ctx, ast.Store):
                            self.assertNotIn(part.id, bound, place)
                        if isinstance(part, ast.arg):
                            self.assertNotIn(part.arg, imported, place)

    def test_imports_name_the_file_that_defines(self):
        defined = {}
        for name, tree in self.trees():
            defined[name[:-3]] = [node.name for node in tree.body if isinstance(node, (ast.FunctionDef, ast.ClassDef))]
            defined[name[:-3]] += [node.targets[0].id for node in tree.body if isinstance(node, ast.Assign)]
        needs = {name: [] for name in defined}
        for name, tree in self.trees():
            for node in tree.body:
                if isinstance(node, ast.ImportFrom) and node.module in LIBRARY:
                    for alias in node.names:
                        self.assertIn(alias.name, LIBRARY[node.module], name)
                        self.assertIsNone(alias.asname)
                elif isinstance(node, ast.ImportFrom):
                    package, _, module = node.module.partition(".")
                    self.assertEqual((package, node.level), ("pulledpegs", 0), name)
                    needs[name[:-3]].append(module)
                    for alias in node.names:
                        self.assertIn(alias.name, defined[module], name)
                        self.assertIsNone(alias.asname)
        while needs:
            free = [name for name in needs if not any(other in needs for other in needs[name])]
            self.assertTrue(free, f"imports go round: {needs}")
            needs = {name: needs[name] for name in needs if name not in free}

    def test_imports_are_used(self):
        for name, tree in self.trees():
            used = {node.id for node in ast.walk(tree) if isinstance(node, ast.Name)}
            for node in tree.body:
                if isinstance(node, ast.ImportFrom):
                    for alias in node.names:
                        self.assertIn(alias.name, used, name)

    def test_names(self):
        for name, tree in self.trees():
            own = {node.name for node in ast.walk(tree) if isinstance(node, (ast.FunctionDef, ast.ClassDef))}
            own |= {node.id for node in ast.walk(tree) if isinstance(node, ast.Name) and isinstance(node.ctx, ast.Store)}
            own |= {node.arg for node in ast.walk(tree) if isinstance(node, ast.arg)}
            imported = {alias.name for node in tree.body if isinstance(node, ast.ImportFrom) for alias in node.names}
            for word in own - {"__init__"}:
                self.assertRegex(word, r"^(_|_?[A-Za-z][A-Za-z0-9_]*)$", name)
                self.assertNotRegex(word, r"^_(wall|pe_|dcw_|enum_|cm_|twin_re_|lay_|law_|stub_|sre|WallAttr)", name)
                self.assertFalse(hasattr(builtins, word), (name, word))
                self.assertNotIn(word, BARRED_NAMES, name)
            for node in ast.walk(tree):
                if isinstance(node, ast.Name) and isinstance(node.ctx, ast.Load):
                    self.assertIn(node.id, own | imported | BUILTINS, name)
                    self.assertNotEqual(node.id, "_", name)

    def test_words(self):
        for name, tree in self.trees():
            for node in ast.walk(tree):
                for field in ("id", "arg", "name", "attr"):
                    word = getattr(node, field, None)
                    if isinstance(word, str):
                        self.assertIsNone(BARRED_WORDS.search(word), name)
        for path in files():
            self.assertNotRegex(path.read_text(encoding="utf-8"), r"\b(_wall|_WallAttr)\b", path.name)

    def test_methods_and_attributes(self):
        assigned, methods = {"join"}, set()
        for place, node in self.nodes(ast.ClassDef):
            its = [part.name for part in node.body if isinstance(part, ast.FunctionDef) and part.name != "__init__"]
            self.assertEqual(len(its), len(set(its)), place)
            stored = {part.attr for part in ast.walk(node) if isinstance(part, ast.Attribute) and isinstance(part.ctx, ast.Store)}
            self.assertFalse(stored & set(its), place)
            for word in its:
                self.assertFalse(any(hasattr(kind, word) for kind in (str, int, list, dict, set, bytes)), (place, word))
            methods |= set(its)
        for _, node in self.nodes(ast.Attribute):
            if isinstance(node.ctx, ast.Store):
                self.assertIsInstance(node.value, ast.Name)
                assigned.add(node.attr)
        self.assertFalse(assigned & methods)
        assigned |= methods
        for place, node in self.nodes(ast.Attribute):
            if isinstance(node.ctx, ast.Load):
                self.assertIn(node.attr, METHODS | assigned, place)

    def test_values(self):
        for place, node in self.nodes(ast.Constant):
            self.assertNotIsInstance(node.value, (float, complex, bytes), place)
            if isinstance(node.value, str):
                self.assertNotIn("%", node.value, place)
        for place, node in self.nodes(ast.Compare):
            for operator, value in zip(node.ops, node.comparators):
                if isinstance(operator, (ast.Is, ast.IsNot)):
                    self.assertIsInstance(value, ast.Constant, place)

    def test_errors_raised_on_the_spot(self):
        for place, node in self.nodes(ast.Raise):
            self.assertIsInstance(node.exc, ast.Call, place)
            self.assertIsInstance(node.exc.func, ast.Name, place)
