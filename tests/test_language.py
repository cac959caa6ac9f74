"""Rules of ../shared/LANGUAGE.md that a look at the files can tell."""

import ast
import builtins
import re
import unittest
from pathlib import Path

PACKAGE = Path(__file__).resolve().parent.parent / "secondknock"
FILES = sorted(PACKAGE.glob("*.py"))
BUILTINS = set(
    "len range enumerate zip min max sum abs sorted reversed int str bool bytes list tuple dict set isinstance ord "
    "repr any all divmod Exception ValueError TypeError KeyError IndexError LookupError".split()
)
LIBRARY = {
    "heapq": {"heappush", "heappop", "heapify", "heapreplace", "heappushpop"},
    "math": {"gcd", "lcm", "isqrt", "comb", "perm", "factorial"},
    "itertools": {"product", "combinations", "permutations", "chain", "accumulate", "pairwise", "islice"},
}
WORDS = (
    "register mro elements open input law with_traceback add_note attrgetter breakpoint builtins compile copyright credits "
    "delattr dir eval exec exit gc getattr globals hasattr help id importlib license locals methodcaller os quit setattr "
    "super type vars sys typing enum namedtuple next iter map filter format hash round"
).split()
STATEMENTS = (
    ast.Assign, ast.AugAssign, ast.If, ast.While, ast.For, ast.Return, ast.Break, ast.Continue, ast.Pass, ast.Raise,
    ast.Assert, ast.Delete, ast.Expr, ast.FunctionDef, ast.ClassDef, ast.ImportFrom, ast.Try,
)
AT_ONCE = {"zip", "enumerate", "reversed", "range"}
METHODS = set(
    "append clear copy count endswith extend find get index insert isalnum isalpha isdigit islower isspace isupper items "
    "join keys ljust lower lstrip partition pop remove replace reverse rfind rjust rpartition rsplit rstrip setdefault "
    "split splitlines startswith strip update upper values zfill bit_length".split()
)


def bound_names(tree):
    """All names that are given a meaning in the functions of a file: parameters and targets."""
    for node in ast.walk(tree):
        if isinstance(node, ast.arg):
            yield node.arg, node
        elif isinstance(node, ast.Name) and isinstance(node.ctx, ast.Store):
            yield node.id, node


class Language(unittest.TestCase):
    longMessage = True

    def each(self):
        texts = [(path, path.read_text(encoding="utf-8")) for path in FILES]
        return [(path, text, ast.parse(text, str(path))) for path, text in texts]

    def test_files(self):
        self.assertIn("__init__.py", [path.name for path in FILES])
        others = [path.name for path in PACKAGE.iterdir() if path not in FILES and path.name != "__pycache__"]
        self.assertEqual(others, [])
        for path, text, tree in self.each():
            self.assertRegex(path.name, r"^[a-z_]+\.py$")
            self.assertIsNone(re.search(r"[^ -~\n]", text))
            lines = text.split("\n")
            self.assertLessEqual(len(lines), 399)
            self.assertLessEqual(max(len(line) for line in lines), 120)
            for node in ast.walk(tree):
                if isinstance(node, ast.FunctionDef):
                    self.assertLessEqual(node.end_lineno - node.lineno + 1, 40, node.name)
                    self.assertEqual(node.decorator_list, [])
                    self.assertTrue(ast.get_docstring(node) or node.name == "__init__", node.name)

    def test_imports(self):
        names = {path.stem for path in FILES}
        for path, _, tree in self.each():
            for node in ast.walk(tree):
                self.assertNotIsInstance(node, ast.Import)
                if not isinstance(node, ast.ImportFrom):
                    continue
                self.assertIn(node, tree.body)
                for own in node.names:
                    self.assertIsNone(own.asname)
                if node.module in LIBRARY:
                    self.assertLessEqual({own.name for own in node.names}, LIBRARY[node.module])
                    continue
                package, module = node.module.split(".")
                self.assertEqual(package, "secondknock")
                self.assertIn(module, names)
                source = ast.parse((PACKAGE / (module + ".py")).read_text(encoding="utf-8"))
                defined = {own.name for own in source.body if isinstance(own, (ast.FunctionDef, ast.ClassDef))}
                defined |= {own.targets[0].id for own in source.body if isinstance(own, ast.Assign)}
                self.assertLessEqual({own.name for own in node.names}, defined)

    def test_no_circle_of_imports(self):
        needs = {}
        for path, _, tree in self.each():
            modules = [node.module for node in tree.body if isinstance(node, ast.ImportFrom)]
            needs[path.stem] = {name.split(".")[1] for name in modules if "." in name}
        while needs:
            free = [name for name, row in needs.items() if not row & set(needs)]
            self.assertTrue(free, needs)
            for name in free:
                del needs[name]

    def test_all_imports_are_used(self):
        for path, _, tree in self.each():
            used = {node.id for node in ast.walk(tree) if isinstance(node, ast.Name)}
            for node in tree.body:
                if isinstance(node, ast.ImportFrom):
                    self.assertLessEqual({own.name for own in node.names}, used, path.name)

    def is_plain(self, node, functions, inside):
        """Whether a module-level value is plain: no list or dict inside another value, functions from above alone."""
        if isinstance(node, ast.Constant):
            return not isinstance(node.value, str) or not set(re.findall(r"\w+", node.value)) & {"typing", "enum", "type"}
        if isinstance(node, ast.Tuple):
            return all(self.is_plain(own, functions, True) for own in node.elts)
        if isinstance(node, ast.Dict) and not inside:
            return all(self.is_plain(own, functions, True) for own in node.keys + node.values)
        return isinstance(node, ast.Name) and inside and node.id in functions

    def test_module_level(self):
        for path, _, tree in self.each():
            functions = set()
            for node in tree.body:
                if isinstance(node, ast.Assign):
                    self.assertEqual(len(node.targets), 1, node.lineno)
                    self.assertIsInstance(node.targets[0], ast.Name)
                    self.assertTrue(self.is_plain(node.value, functions, False), (path.name, node.lineno))
                elif isinstance(node, ast.Expr):
                    self.assertIs(node, tree.body[0])
                else:
                    self.assertIsInstance(node, (ast.ImportFrom, ast.FunctionDef, ast.ClassDef))
                if isinstance(node, ast.FunctionDef):
                    functions.add(node.name)

    def test_tables_are_only_read(self):
        """A dict at module level is asked by an index or by `in` alone; a function from it gets a name first."""
        for path, _, tree in self.each():
            tables = {
                node.targets[0].id for node in tree.body if isinstance(node, ast.Assign) and isinstance(node.value, ast.Dict)
            }
            for node in ast.walk(tree):
                for own in ast.iter_child_nodes(node):
                    if isinstance(own, ast.Name) and own.id in tables and isinstance(own.ctx, ast.Load):
                        self.assertIsInstance(node, (ast.Subscript, ast.Compare), (path.name, own.lineno))
                if isinstance(node, ast.Call):
                    self.assertIsInstance(node.func, (ast.Name, ast.Attribute), (path.name, node.lineno))

    def test_strings(self):
        for path, _, tree in self.each():
            for node in ast.walk(tree):
                if isinstance(node, ast.Constant) and isinstance(node.value, str):
                    self.assertIsNone(re.search(r"__|\._$", node.value), (path.name, node.lineno))
                if isinstance(node, ast.FormattedValue):
                    self.assertEqual((node.conversion, node.format_spec), (-1, None), (path.name, node.lineno))
                    inner = [own for own in ast.walk(node.value) if isinstance(own, ast.Constant)]
                    self.assertFalse([own for own in inner if isinstance(own.value, str)], (path.name, node.lineno))

    def test_names(self):
        for path, _, tree in self.each():
            top = {own.name for own in tree.body if isinstance(own, (ast.FunctionDef, ast.ClassDef))}
            barred = {own.name for node in tree.body if isinstance(node, ast.ImportFrom) for own in node.names}
            barred |= {own.name for own in tree.body if isinstance(own, ast.ClassDef)}
            for name, node in bound_names(tree):
                self.assertNotIn(name, barred | top, (name, node.lineno))
                self.assertNotIn(name, WORDS, (name, node.lineno))
                self.assertFalse(hasattr(builtins, name), (name, node.lineno))
                self.assertRegex(name, r"^([A-Za-z][A-Za-z0-9_]*|_)$")
            for name in top:
                self.assertFalse(hasattr(builtins, name) or name in WORDS, name)
            for node in ast.walk(tree):
                if isinstance(node, ast.Name) and isinstance(node.ctx, ast.Load):
                    self.assertNotEqual(node.id, "_", node.lineno)
                    if hasattr(builtins, node.id):
                        self.assertIn(node.id, BUILTINS, node.lineno)

    def test_statements_and_values(self):
        for path, _, tree in self.each():
            for node in ast.walk(tree):
                if isinstance(node, ast.stmt):
                    self.assertIsInstance(node, STATEMENTS, node.lineno)
                if isinstance(node, ast.Try):
                    self.assertEqual((node.orelse, node.finalbody), ([], []))
                    for own in node.handlers:
                        self.assertIn(own.type.id, ("NoSpot", "Unfit", "NothingDone"), node.lineno)
                if isinstance(node, ast.Constant):
                    self.assertNotIsInstance(node.value, (float, complex), node.lineno)
                self.assertNotIsInstance(node, (ast.Div, ast.MatMult, ast.GeneratorExp, ast.Set, ast.SetComp))
                if isinstance(node, ast.Compare):
                    for sign, other in zip(node.ops, node.comparators):
                        if isinstance(sign, (ast.Is, ast.IsNot)):
                            self.assertIsInstance(other, ast.Constant, node.lineno)
                if isinstance(node, ast.Constant) and isinstance(node.value, str):
                    self.assertNotIn("%", node.value)

    def own_methods(self):
        """The methods of the package's own classes, and the attributes that they assign."""
        methods, attributes = set(), set()
        for _, _, tree in self.each():
            for kind in [node for node in tree.body if isinstance(node, ast.ClassDef)]:
                methods |= {own.name for own in kind.body if isinstance(own, ast.FunctionDef)}
                for node in ast.walk(kind):
                    if isinstance(node, ast.Attribute) and isinstance(node.ctx, ast.Store):
                        attributes.add(node.attr)
        return methods, attributes

    def test_classes(self):
        methods, attributes = self.own_methods()
        plain = {name for name in methods if not name.startswith("_")}
        self.assertEqual(methods - plain, {"__init__", "__eq__"})
        barred = METHODS | {"sort", "args", "encode", "decode", "hex", "fromhex", "format", "mro"} | set(WORDS)
        for kind in (str, int, list, dict, set, bytes, tuple):
            barred |= {name for name in dir(kind) if not name.startswith("_")}
        self.assertEqual(plain & barred, set())
        self.assertEqual(attributes & (methods | set(WORDS) | METHODS), set())

    def test_methods_and_keywords(self):
        own_methods = self.own_methods()[0]
        for path, _, tree in self.each():
            for node in ast.walk(tree):
                if not isinstance(node, ast.Call):
                    continue
                if isinstance(node.func, ast.Attribute):
                    self.assertIn(node.func.attr, METHODS | own_methods, node.lineno)
                    self.assertEqual(node.keywords, [], node.lineno)
                elif hasattr(builtins, node.func.id):
                    self.assertLessEqual({own.arg for own in node.keywords}, {"key", "default", "reverse"}, node.lineno)
                if isinstance(node.func, ast.Name) and node.func.id in ("combinations", "permutations"):
                    self.assertIsInstance(node.args[1], (ast.Constant, ast.Name), node.lineno)
                    self.assertTrue(isinstance(node.args[0], ast.Name) or node.args[0].func.id == "list", node.lineno)

    def test_where_sets_and_iterators_stand(self):
        for path, _, tree in self.each():
            for node in ast.walk(tree):
                for own in ast.iter_child_nodes(node):
                    if not isinstance(own, ast.Call) or not isinstance(own.func, ast.Name):
                        continue
                    if own.func.id == "set":
                        self.assertIsInstance(node, ast.Call, own.lineno)
                        self.assertIn(node.func.id, ("sorted", "len"), own.lineno)
                        self.assertEqual(node.keywords, [], own.lineno)
                    if own.func.id in AT_ONCE:
                        self.assertIsInstance(node, (ast.For, ast.comprehension, ast.Call), own.lineno)
                        if isinstance(node, ast.Call):
                            self.assertIn(node.func.id, ("list", "tuple", "sorted", "sum"), own.lineno)
