"""The files of the package keep to the plain subset of Python, as far as their text shows it."""

import ast
import builtins
import pathlib
import re
import unittest

PACKAGE = pathlib.Path(__file__).resolve().parent.parent / "overrows"
FILES = sorted(path for path in PACKAGE.iterdir() if path.name != "__pycache__")

BUILTINS = set(
    "len range enumerate zip min max sum abs sorted reversed int str bool list tuple dict set isinstance ord repr any"
    " all divmod Exception ValueError TypeError KeyError IndexError LookupError ZeroDivisionError ArithmeticError"
    " OverflowError RuntimeError NotImplementedError AttributeError StopIteration".split()
)
METHODS = set(
    "append clear copy count endswith extend find get index insert isalnum isalpha isdigit islower isspace isupper"
    " items join keys ljust lower lstrip partition pop remove replace reverse rfind rjust rpartition rsplit rstrip"
    " setdefault split splitlines startswith strip update upper values zfill bit_length".split()
)
STATEMENTS = (
    ast.Assign, ast.AugAssign, ast.If, ast.While, ast.For, ast.Return, ast.Break, ast.Continue, ast.Pass, ast.Raise,
    ast.Delete, ast.Try, ast.Expr, ast.FunctionDef, ast.ClassDef, ast.ImportFrom, ast.Assert,
)
BARRED_NAMES = set(
    "register mro elements open input law version_info attrgetter breakpoint builtins compile copyright credits"
    " delattr dir eval exec exit gc getattr globals hasattr help id importlib license locals methodcaller os quit"
    " setattr super type vars sys".split()
)
BARRED_WORDS = set(
    "type typing typing_extensions enum Enum IntEnum StrEnum Flag IntFlag Generic Protocol ABC ABCMeta namedtuple"
    " NamedTuple TypedDict TYPE_CHECKING abstractmethod".split()
)
LIBRARY = {"math": {"gcd", "lcm", "isqrt", "comb"}, "heapq": {"heappush", "heappop"}}
# The interface itself calls these parameters as it calls a function of the same file.
SAME_BY_THE_INTERFACE = {"needs.py": {"needs"}, "pages.py": {"merges"}}
TAKES_A_LIST = ("any", "all", "min", "max", "sum", "sorted")


def trees():
    return [(path, ast.parse(path.read_text(encoding="utf-8"))) for path in FILES]


def nodes(kinds):
    return [(path.name, node) for path, tree in trees() for node in ast.walk(tree) if isinstance(node, kinds)]


def bound_names(tree):
    """The names that the functions of a file bind as parameters or variables."""
    found = set()
    for node in ast.walk(tree):
        if isinstance(node, ast.arg):
            found.add(node.arg)
        if isinstance(node, ast.Name) and isinstance(node.ctx, ast.Store):
            found.add(node.id)
    return found


def module_names(tree):
    """The names that a file binds at module level, one entry for each binding."""
    found = []
    for node in tree.body:
        if isinstance(node, ast.ImportFrom):
            found.extend(alias.asname or alias.name for alias in node.names)
        if isinstance(node, (ast.FunctionDef, ast.ClassDef)):
            found.append(node.name)
        if isinstance(node, ast.Assign):
            found.append(node.targets[0].id)
    return found


class Files(unittest.TestCase):
    def test_folder_holds_plain_python_files(self):
        self.assertLessEqual(len(FILES), 100)
        for path in FILES:
            self.assertTrue(path.is_file())
            self.assertRegex(path.name, r"^([a-z][a-z0-9_]*|__init__|__main__)\.py$")

    def test_characters_and_sizes(self):
        for path in FILES:
            text = path.read_text(encoding="utf-8")
            self.assertRegex(text, r"\A[ -~\n]*\Z", path.name)
            lines = text.split("\n")
            self.assertLessEqual(len(lines) - 1, 399, path.name)
            self.assertLessEqual(max(len(line) for line in lines), 120, path.name)
        for name, node in nodes(ast.FunctionDef):
            self.assertLessEqual(node.end_lineno - node.lineno + 1, 40, f"{name} {node.name}")

    def test_module_level(self):
        for path, tree in trees():
            self.assertIsNotNone(ast.get_docstring(tree), path.name)
            for node in tree.body[1:]:
                self.assertIsInstance(node, (ast.ImportFrom, ast.FunctionDef, ast.ClassDef, ast.Assign), path.name)
                if isinstance(node, ast.Assign):
                    self.assertEqual(len(node.targets), 1)
                    self.assertIsInstance(node.targets[0], ast.Name)
                    ast.literal_eval(node.value)

    def test_imports(self):
        graph = {}
        for path, tree in trees():
            graph[path.stem] = []
            for node in ast.walk(tree):
                self.assertNotIsInstance(node, ast.Import, path.name)
                if not isinstance(node, ast.ImportFrom):
                    continue
                self.assertIn(node, tree.body)
                names = {alias.name for alias in node.names}
                if node.module in LIBRARY:
                    self.assertLessEqual(names, LIBRARY[node.module])
                    continue
                self.assertRegex(node.module, r"^overrows\.[a-z]+$")
                source = ast.parse((PACKAGE / (node.module.split(".")[1] + ".py")).read_text(encoding="utf-8"))
                defined = [made.name for made in source.body if isinstance(made, (ast.FunctionDef, ast.ClassDef))]
                plain = [made.targets[0].id for made in source.body if isinstance(made, ast.Assign)]
                self.assertLessEqual(names, set(defined + plain), path.name)
                graph[path.stem].append(node.module.split(".")[1])
        while graph:
            free = [name for name, needed in graph.items() if not any(other in graph for other in needed)]
            self.assertTrue(free, f"files import each other: {sorted(graph)}")
            for name in free:
                del graph[name]


class Names(unittest.TestCase):
    def test_one_meaning_for_each_name(self):
        for path, tree in trees():
            at_module_level = module_names(tree)
            self.assertEqual(len(at_module_level), len(set(at_module_level)), path.name)
            inside = bound_names(tree) - {node.targets[0].id for node in tree.body if isinstance(node, ast.Assign)}
            self.assertLessEqual(inside & set(at_module_level), SAME_BY_THE_INTERFACE.get(path.name, set()), path.name)
            self.assertEqual((inside | set(at_module_level)) & set(dir(builtins)), set(), path.name)

    def test_barred_names_and_words(self):
        for path, tree in trees():
            names = bound_names(tree) | set(module_names(tree))
            self.assertEqual(names & BARRED_NAMES, set(), path.name)
            for name in names - {"_"}:
                self.assertRegex(name, r"^_?[A-Za-z][A-Za-z0-9_]*$", path.name)
            for node in ast.walk(tree):
                if isinstance(node, ast.Name):
                    self.assertNotIn(node.id, BARRED_WORDS, path.name)
                    self.assertFalse(node.id == "_" and isinstance(node.ctx, ast.Load), path.name)
                if isinstance(node, ast.Attribute):
                    self.assertNotIn(node.attr, BARRED_WORDS | {"format", "mro"}, path.name)

    def test_builtins_and_methods(self):
        own = {node.name for _, node in nodes(ast.FunctionDef)}
        for path, tree in trees():
            known = bound_names(tree) | set(module_names(tree)) | BUILTINS
            for node in ast.walk(tree):
                if isinstance(node, ast.Name) and isinstance(node.ctx, ast.Load):
                    self.assertIn(node.id, known, path.name)
                if isinstance(node, ast.Call) and isinstance(node.func, ast.Attribute):
                    self.assertIn(node.func.attr, METHODS | own, path.name)


class Code(unittest.TestCase):
    def test_statements(self):
        for name, node in nodes(ast.stmt):
            self.assertIsInstance(node, STATEMENTS, f"{name} {node.lineno}")
            if isinstance(node, ast.Expr):
                plain = isinstance(node.value, ast.Call) or isinstance(getattr(node.value, "value", None), str)
                self.assertTrue(plain, f"{name} {node.lineno}")
            if isinstance(node, (ast.FunctionDef, ast.ClassDef)):
                self.assertEqual(node.decorator_list, [], f"{name} {node.lineno}")
            if isinstance(node, ast.Raise) and node.exc is not None:
                self.assertIsInstance(node.exc, ast.Call, f"{name} {node.lineno}")

    def test_values(self):
        for name, node in nodes((ast.Constant, ast.BinOp, ast.Compare)):
            where = f"{name} {node.lineno}"
            if isinstance(node, ast.Constant):
                self.assertIn(type(node.value), (int, str, bool, type(None)), where)
            if isinstance(node, ast.BinOp):
                self.assertNotIsInstance(node.op, (ast.Div, ast.Pow, ast.MatMult), where)
            if isinstance(node, ast.Compare):
                for sign, right in zip(node.ops, node.comparators):
                    if isinstance(sign, (ast.Is, ast.IsNot)):
                        self.assertIn(getattr(right, "value", 0), (None, True, False), where)

    def test_no_percent_sign_in_strings(self):
        for path, tree in trees():
            docstrings = {id(node.body[0].value) for node in ast.walk(tree)
                          if isinstance(node, (ast.Module, ast.FunctionDef, ast.ClassDef)) and ast.get_docstring(node)}
            for node in ast.walk(tree):
                if isinstance(node, ast.Constant) and isinstance(node.value, str) and id(node) not in docstrings:
                    self.assertNotIn("%", node.value, path.name)
                    self.assertFalse(set(re.findall(r"\w+", node.value)) & BARRED_WORDS, path.name)

    def test_sets_and_generators_stand_where_they_may(self):
        for name, node in nodes((ast.Set, ast.Yield, ast.YieldFrom, ast.Lambda, ast.NamedExpr)):
            self.fail(f"{name} {node.lineno}: not used so far, extend this test with the rules for it")
        fine = set()
        for _, node in nodes(ast.Call):
            if isinstance(node.func, ast.Name) and len(node.args) == 1 and node.func.id in ("len", "sorted"):
                fine.add(ast.dump(node.args[0]))
        for name, node in nodes((ast.SetComp, ast.Call)):
            if isinstance(node, ast.SetComp) or getattr(node.func, "id", "") == "set":
                self.assertIn(ast.dump(node), fine, f"{name} {node.lineno}")
        for name, node in nodes(ast.Call):
            if isinstance(node.func, ast.Name) and node.func.id in TAKES_A_LIST:
                for argument in node.args:
                    self.assertNotIsInstance(argument, ast.GeneratorExp, f"{name} {node.lineno}")

    def test_strings_with_braces_stay_plain(self):
        for name, node in nodes(ast.FormattedValue):
            self.assertEqual((node.conversion, node.format_spec), (-1, None), f"{name} {node.lineno}")
            self.assertEqual(node.lineno, node.end_lineno, f"{name} {node.lineno}")
            for inner in ast.walk(node.value):
                self.assertNotIsInstance(getattr(inner, "value", None), str, f"{name} {node.lineno}")

    def test_errors_are_caught_by_own_names_and_finally_is_simple(self):
        own = {node.name for _, node in nodes(ast.ClassDef)}
        for name, node in nodes(ast.Try):
            for handler in node.handlers:
                caught = handler.type.elts if isinstance(handler.type, ast.Tuple) else [handler.type]
                self.assertLessEqual({error.id for error in caught}, own, f"{name} {node.lineno}")
            for step in node.finalbody:
                self.assertRegex(ast.unparse(step), r"^self\._[a-z]+\.append\(\('\w+', '\w+'\)\)$")


if __name__ == "__main__":
    unittest.main()
