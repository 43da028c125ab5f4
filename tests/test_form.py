"""The rules of the language subset that a program can see, file by file.

The numbers are those of the rules. What is allowed there but not used by the
package is left out here, so a new file may make a list below longer.
"""
import ast
import unittest
import warnings
from pathlib import Path

PACKAGE = Path(__file__).resolve().parent.parent / "wornsheaf"
BUILTINS = set(
    "len range enumerate zip min max sum abs sorted reversed int str bool list tuple dict set"
    " isinstance ord repr any all divmod iter property NotImplemented"
    " ValueError TypeError KeyError".split()
)
METHODS = set(
    "append clear copy count endswith extend find get index insert isalnum isalpha isdigit islower"
    " isspace isupper items join keys ljust lower lstrip partition pop remove replace reverse rfind"
    " rjust rpartition rsplit rstrip setdefault split splitlines startswith strip update upper"
    " values zfill bit_length".split()
)
STATEMENTS = (
    ast.Assign, ast.AugAssign, ast.If, ast.While, ast.For, ast.Return, ast.Break, ast.Continue,
    ast.Pass, ast.Raise, ast.Assert, ast.Delete, ast.Try, ast.Expr, ast.FunctionDef, ast.ClassDef,
    ast.ImportFrom,
)
SPECIAL = set("__init__ __eq__ __repr__ __str__ __len__ __iter__ __add__ __call__".split())
BARRED_NAMES = set(
    "register mro elements open input law version_info with_traceback add_note attrgetter"
    " breakpoint builtins compile copyright credits delattr dir eval exec exit gc globals help id"
    " importlib license locals methodcaller os quit setattr super type vars sys round hash next map"
    " filter print format pow chr float bytes frozenset".split()
)
BARRED_STARTS = ("__", "_wall", "_pe_", "_record", "_lay_", "_law_", "_enum_", "_sre")
BARRED_WORDS = set(
    "type typing enum Enum Flag Generic Protocol ABC namedtuple NamedTuple TypedDict".split()
)


def files():
    return sorted(PACKAGE.glob("**/*.py"))


def tree_of(path):
    return ast.parse(path.read_text(encoding="utf-8"))


def defined_in(tree):
    """Return the names that a file binds at module level, imports left out."""
    names = []
    for node in tree.body:
        if isinstance(node, (ast.FunctionDef, ast.ClassDef)):
            names.append(node.name)
        if isinstance(node, ast.Assign):
            names += [target.id for target in node.targets]
    return names


def imported_in(tree):
    return [
        alias.name for node in tree.body if isinstance(node, ast.ImportFrom)
        for alias in node.names
    ]


def local_names(tree):
    """Return the names of parameters, variables and functions within functions."""
    found = set()
    for node in ast.walk(tree):
        if isinstance(node, ast.arg):
            found.add(node.arg)
        if isinstance(node, ast.FunctionDef):
            for item in ast.walk(node):
                if isinstance(item, ast.Name) and isinstance(item.ctx, ast.Store):
                    found.add(item.id)
                if isinstance(item, ast.FunctionDef) and item is not node:
                    found.add(item.name)
    return found


def trees():
    return [(path, tree_of(path)) for path in files()]


def nodes(*kinds):
    """Return each node of these kinds in the package, and where it stands."""
    return [
        (f"{path.name}:{getattr(node, 'lineno', 0)}", node)
        for path, tree in trees() for node in ast.walk(tree) if isinstance(node, kinds)
    ]


class TestForm(unittest.TestCase):
    def test_l1_l14_the_folder(self):
        for path in PACKAGE.rglob("*"):
            if "__pycache__" not in path.parts:
                self.assertTrue(path.is_file() and path.suffix == ".py", path)
                self.assertTrue(path.stem.replace("_", "").isalnum() and path.stem.islower(), path)
        self.assertTrue((PACKAGE / "__init__.py").is_file())

    def test_l10_l14_sizes_and_characters(self):
        for path, tree in trees():
            text = path.read_text(encoding="utf-8")
            self.assertTrue(all(" " <= sign <= "~" or sign == "\n" for sign in text), path)
            lines = text.splitlines()
            self.assertLessEqual(len(lines), 399, path)
            self.assertLessEqual(max(map(len, lines)), 120, path)
            for node in ast.walk(tree):
                if isinstance(node, ast.FunctionDef):
                    self.assertLessEqual(node.end_lineno - node.lineno + 1, 40, node.name)

    def test_l2_l16_imports(self):
        for path, tree in trees():
            self.assertTrue(ast.get_docstring(tree), path)
            found = [
                node for node in ast.walk(tree) if isinstance(node, (ast.Import, ast.ImportFrom))
            ]
            self.assertEqual(tree.body[1:1 + len(found)], found, path)
            for node in found:
                self.assertIsInstance(node, ast.ImportFrom, path)
                package, _, stem = node.module.partition(".")
                self.assertEqual((node.level, package), (0, "wornsheaf"), path)
                names = defined_in(tree_of(PACKAGE / f"{stem}.py"))
                for alias in node.names:
                    self.assertIn(alias.name, names, path)
                    self.assertIsNone(alias.asname, path)

    def test_l16_no_circle_of_imports(self):
        imports = {
            path.stem: [
                node.module.partition(".")[2] for node in tree.body
                if isinstance(node, ast.ImportFrom)
            ]
            for path, tree in trees()
        }
        done = []
        while len(done) < len(imports):
            free = [
                stem for stem in imports
                if stem not in done and all(other in done for other in imports[stem])
            ]
            self.assertTrue(free, "files import from each other")
            done += free

    def test_l3_module_level(self):
        for path, tree in trees():
            for node in tree.body[1:]:
                self.assertIsInstance(
                    node, (ast.ImportFrom, ast.FunctionDef, ast.ClassDef, ast.Assign), path
                )
                if isinstance(node, ast.Assign):
                    self.assertEqual(len(node.targets), 1, path)
                    ast.literal_eval(node.value)

    def test_l15_one_binding_for_each_name(self):
        for path, tree in trees():
            names = defined_in(tree) + imported_in(tree)
            self.assertEqual(len(names), len(set(names)), path)
            classes = [node.name for node in tree.body if isinstance(node, ast.ClassDef)]
            self.assertFalse(local_names(tree) & set(classes + imported_in(tree)), path)

    def test_l4_functions(self):
        for where, node in nodes(ast.FunctionDef):
            for decorator in node.decorator_list:
                self.assertEqual(getattr(decorator, "id", None), "property", where)
            for default in node.args.defaults + node.args.kw_defaults:
                if default is not None:
                    self.assertIsInstance(default, ast.Constant, where)
            if node.name.startswith("__"):
                self.assertIn(node.name, SPECIAL, where)

    def test_l5_l18_classes(self):
        for where, node in nodes(ast.ClassDef):
            self.assertEqual(node.decorator_list, [], where)
            names = [item.name for item in node.body if isinstance(item, ast.FunctionDef)]
            self.assertEqual(len(names), len(set(names)), where)
            stored = {
                item.attr for item in ast.walk(node)
                if isinstance(item, ast.Attribute) and isinstance(item.ctx, ast.Store)
            }
            self.assertFalse(stored & set(names), where)

    def test_l6_l19_statements(self):
        for where, node in nodes(ast.stmt):
            self.assertIsInstance(node, STATEMENTS, where)
            if isinstance(node, ast.Raise) and node.exc is not None:
                self.assertIsInstance(node.exc, ast.Call, where)
                self.assertIsInstance(node.exc.func, ast.Name, where)
        for where, node in nodes(ast.ExceptHandler):
            for name in getattr(node.type, "elts", [node.type]):
                self.assertIsInstance(name, ast.Name, where)
                self.assertNotIn(name.id, BUILTINS, where)

    def test_l7_l20_l27_expressions(self):
        self.assertEqual(nodes(ast.GeneratorExp, ast.Await, ast.Div, ast.NamedExpr), [])
        self.assertEqual(nodes(ast.Set, ast.SetComp, ast.Lambda), [])
        for where, node in nodes(ast.BinOp):
            if isinstance(node.op, ast.Pow):
                self.assertIsInstance(node.right, ast.Constant, where)
        for where, node in nodes(ast.Constant):
            self.assertNotIsInstance(node.value, (float, complex, bytes), where)
        for where, node in nodes(ast.Compare):
            for sign, other in zip(node.ops, node.comparators):
                if isinstance(sign, (ast.Is, ast.IsNot)):
                    self.assertIn(getattr(other, "value", 0), (None, True, False), where)

    def test_l8_l12_l17_names(self):
        for path, tree in trees():
            bound = set(defined_in(tree) + imported_in(tree)) | local_names(tree)
            for name in bound:
                self.assertNotIn(name, BUILTINS | BARRED_NAMES, path)
                self.assertFalse(name.startswith(BARRED_STARTS), path)
            for node in ast.walk(tree):
                if isinstance(node, ast.Name):
                    self.assertNotIn(node.id, BARRED_WORDS, path)
                    if isinstance(node.ctx, ast.Load):
                        self.assertIn(node.id, (bound | BUILTINS) - {"_"}, path)
                if isinstance(node, ast.Attribute):
                    self.assertNotIn(node.attr, BARRED_WORDS, path)

    def test_l17_l27_strings(self):
        for path, tree in trees():
            documents = [
                node.body[0].value for node in ast.walk(tree)
                if isinstance(node, (ast.Module, ast.ClassDef, ast.FunctionDef))
                and ast.get_docstring(node) is not None
            ]
            for node in ast.walk(tree):
                if isinstance(node, ast.Constant) and isinstance(node.value, str):
                    if node not in documents:
                        self.assertNotIn("%", node.value, path)
                        self.assertFalse(BARRED_WORDS & set(node.value.split()), path)

    def test_l22_l25_l26_calls(self):
        own = {node.name for _, node in nodes(ast.FunctionDef)}
        for where, node in nodes(ast.Call):
            if isinstance(node.func, ast.Attribute):
                self.assertIn(node.func.attr, METHODS | own, where)
            elif node.func.id in BUILTINS:
                self.assertEqual(node.keywords, [], where)

    def test_l23_generators(self):
        yielding = {
            node.name for _, node in nodes(ast.FunctionDef)
            if any(isinstance(item, (ast.Yield, ast.YieldFrom)) for item in ast.walk(node))
        }
        taken = []
        for _, node in nodes(ast.Call):
            if getattr(node.func, "id", None) in ("list", "tuple", "sorted", "sum", "enumerate"):
                taken += node.args
        taken += [node.iter for _, node in nodes(ast.For, ast.comprehension)]
        for where, node in nodes(ast.Call):
            if getattr(node.func, "id", None) in yielding:
                lines = [ast.dump(other) for other in taken]
                self.assertIn(ast.dump(node), lines, where)

    def test_l27_no_warning(self):
        for path in files():
            with self.subTest(path.name), warnings.catch_warnings():
                warnings.simplefilter("error")
                compile(path.read_text(encoding="utf-8"), str(path), "exec")

    def test_l28_special_methods(self):
        for where, node in nodes(ast.FunctionDef):
            returns = [item for item in ast.walk(node) if isinstance(item, ast.Return)]
            if node.name == "__init__":
                self.assertEqual(returns, [], where)
            if node.name == "__len__":
                self.assertEqual([item.value.func.id for item in returns], ["len"], where)
            if node.name == "__iter__":
                self.assertEqual(len(node.body), 1, where)


if __name__ == "__main__":
    unittest.main()
