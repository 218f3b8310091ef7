"""What ../shared/LANGUAGE.md asks of the files of the package, as far as a short look can tell."""

import ast
import pathlib
import re
import unittest

PACKAGE = pathlib.Path(__file__).resolve().parent.parent / "snakehall"
FILES = sorted(PACKAGE.rglob("*.py"))
BARRED = (
    "type typing typing_extensions enum Enum IntEnum StrEnum Flag IntFlag Generic Protocol ABC ABCMeta namedtuple "
    "NamedTuple TypedDict TYPE_CHECKING abstractmethod"
).split()
BUILTINS = (
    "len range enumerate zip min max sum abs sorted reversed int str bool bytes list tuple dict set frozenset "
    "isinstance ord repr any all divmod Exception ValueError TypeError KeyError IndexError LookupError "
    "ZeroDivisionError ArithmeticError OverflowError RuntimeError NotImplementedError AttributeError StopIteration "
    "NotImplemented super"
).split()
METHODS = (
    "append clear copy count endswith extend find get index insert isalnum isalpha isdigit islower isspace isupper items "
    "join keys ljust lower lstrip partition pop remove replace reverse rfind rjust rpartition rsplit rstrip setdefault "
    "split splitlines startswith strip update upper values zfill bit_length add discard"
).split()
BARRED_ATTRIBUTES = (
    "items keys values pop update append clear extend insert remove reverse setdefault sort args encode decode hex fromhex "
    "format format_map mro"
).split()
STATEMENTS = (
    ast.Assign, ast.AugAssign, ast.If, ast.While, ast.For, ast.Return, ast.Break, ast.Continue, ast.Pass, ast.Raise,
    ast.Assert, ast.Delete, ast.Try, ast.Expr, ast.FunctionDef, ast.ClassDef, ast.ImportFrom,
)
TAKERS = "list tuple dict sorted sum any all enumerate zip bytes min max len".split()
CHANGES = "append clear extend insert pop remove reverse setdefault update sort".split()
TOP = (ast.ImportFrom, ast.FunctionDef, ast.ClassDef, ast.Assign, ast.Expr)


def tree_of_file(path):
    return ast.parse(path.read_text(encoding="ascii"))


def nodes():
    """All nodes of all files."""
    return [node for path in FILES for node in ast.walk(tree_of_file(path))]


def own_methods():
    """The names of all methods that classes of the package define."""
    return {
        row.name for node in nodes() if isinstance(node, ast.ClassDef) for row in node.body
        if isinstance(row, ast.FunctionDef)
    }


def own_attributes():
    """The names of all attributes that are assigned anywhere in the package."""
    return {node.attr for node in nodes() if isinstance(node, ast.Attribute) and isinstance(node.ctx, ast.Store)}


def imports_of(path):
    """The names of the files that a file imports from."""
    return {
        node.module.partition(".")[2] for node in ast.walk(tree_of_file(path)) if isinstance(node, ast.ImportFrom)
    }


class Language(unittest.TestCase):
    def test_there_are_files(self):
        self.assertTrue(FILES)

    def test_l1_and_l14_files(self):
        for path in PACKAGE.rglob("*"):
            if "__pycache__" not in path.parts:
                self.assertRegex(path.name, r"^[a-z0-9_]+\.py$")
        self.assertTrue((PACKAGE / "__init__.py").is_file())

    def test_l2_and_l16_imports(self):
        names = {path.stem for path in FILES}
        for path in FILES:
            for node in ast.walk(tree_of_file(path)):
                self.assertNotIsInstance(node, ast.Import)
                if isinstance(node, ast.ImportFrom):
                    self.assertEqual(node.level, 0)
                    package, _, module = node.module.partition(".")
                    self.assertEqual(package, "snakehall")
                    self.assertIn(module, names)
                    self.assertNotIn("*", [each.name for each in node.names])

    def test_l3_module_level(self):
        for path in FILES:
            for node in tree_of_file(path).body:
                self.assertIsInstance(node, TOP, path.name)

    def test_l3_and_l15_tables_at_module_level(self):
        for path in FILES:
            above = set()
            for node in tree_of_file(path).body:
                if isinstance(node, ast.FunctionDef):
                    above.add(node.name)
                if isinstance(node, ast.Assign):
                    inner = [part for part in ast.walk(node.value) if part is not node.value]
                    self.assertFalse([part for part in inner if isinstance(part, (ast.List, ast.Dict, ast.Call))], path.name)
                    self.assertLessEqual({part.id for part in inner if isinstance(part, ast.Name)}, above, path.name)

    def test_l4_functions(self):
        for node in nodes():
            if isinstance(node, ast.FunctionDef):
                self.assertEqual(node.decorator_list, [])
                self.assertEqual((node.args.posonlyargs, node.args.kwonlyargs), ([], []))
            self.assertNotIsInstance(node, (ast.AsyncFunctionDef, ast.Yield, ast.YieldFrom, ast.Await))

    def test_l6_statements(self):
        for node in nodes():
            if isinstance(node, ast.stmt):
                self.assertIsInstance(node, STATEMENTS)
            if isinstance(node, ast.ExceptHandler):
                self.assertIsInstance(node.type, ast.Name)
            if isinstance(node, ast.Try):
                self.assertEqual(node.finalbody, [])
            if isinstance(node, ast.Raise) and node.exc is not None:
                self.assertIsInstance(node.exc, ast.Call)
                self.assertIsInstance(node.exc.func, ast.Name)

    def test_l7_no_floats_and_no_division(self):
        for node in nodes():
            self.assertNotIsInstance(node, (ast.Div, ast.NamedExpr))

    def test_l8_builtins(self):
        known = set(dir(__builtins__)) if not isinstance(__builtins__, dict) else set(__builtins__)
        for path in FILES:
            for node in ast.walk(tree_of_file(path)):
                if isinstance(node, ast.Name) and node.id in known:
                    self.assertIsInstance(node.ctx, ast.Load)
                    self.assertIn(node.id, BUILTINS)
                if isinstance(node, ast.arg):
                    self.assertNotIn(node.arg, known)

    def test_l10_size(self):
        for path in FILES:
            rows = path.read_text(encoding="ascii").split("\n")
            self.assertLessEqual(len(rows), 400)
            self.assertLessEqual(max(len(row) for row in rows), 120)
            for node in ast.walk(tree_of_file(path)):
                if isinstance(node, ast.FunctionDef):
                    self.assertLessEqual(node.end_lineno - node.lineno + 1, 40, node.name)

    def test_l12_plain_names(self):
        for path in FILES:
            for node in ast.walk(tree_of_file(path)):
                for field in ("id", "arg", "attr", "name"):
                    told = getattr(node, field, None)
                    if isinstance(told, str) and told not in ("__init__",):
                        self.assertRegex(told, r"^[A-Za-z][A-Za-z0-9_]*$")

    def test_l14_characters(self):
        for path in FILES:
            self.assertRegex(path.read_bytes().decode("latin-1"), r"\A[ -~\n]*\Z")

    def test_l15_one_binding_for_each_name(self):
        for path in FILES:
            names = []
            for node in tree_of_file(path).body:
                if isinstance(node, ast.ImportFrom):
                    names += [each.asname or each.name for each in node.names]
                elif isinstance(node, ast.Assign):
                    names += [target.id for target in node.targets]
                elif not isinstance(node, ast.Expr):
                    names.append(node.name)
            self.assertEqual(len(names), len(set(names)))

    def test_l15_names_of_parameters_and_variables(self):
        for path in FILES:
            tree = tree_of_file(path)
            taken = {node.name for node in tree.body if isinstance(node, ast.ClassDef)}
            for node in tree.body:
                if isinstance(node, ast.ImportFrom):
                    taken |= {each.name for each in node.names}
            for node in ast.walk(tree):
                if isinstance(node, ast.arg):
                    self.assertNotIn(node.arg, taken)
                if isinstance(node, ast.Name) and isinstance(node.ctx, ast.Store):
                    self.assertNotIn(node.id, taken)

    def test_l16_no_two_files_import_from_each_other(self):
        ways = {path.stem: imports_of(path) for path in FILES}
        done = set()
        while len(done) < len(ways):
            ready = [name for name in ways if name not in done and ways[name] <= done]
            self.assertTrue(ready, sorted(set(ways) - done))
            done.update(ready)

    def test_l16_a_name_is_imported_from_the_file_that_defines_it(self):
        for path in FILES:
            for node in ast.walk(tree_of_file(path)):
                if isinstance(node, ast.ImportFrom):
                    other = tree_of_file(PACKAGE / (node.module.partition(".")[2] + ".py"))
                    defined = {row.name for row in other.body if isinstance(row, (ast.FunctionDef, ast.ClassDef))}
                    for row in other.body:
                        if isinstance(row, ast.Assign):
                            defined |= {target.id for target in row.targets}
                    self.assertLessEqual({each.name for each in node.names}, defined)

    def test_l18_methods_and_attributes(self):
        self.assertEqual(own_methods() & own_attributes(), set())
        for node in nodes():
            if isinstance(node, ast.ClassDef):
                names = [row.name for row in node.body if isinstance(row, ast.FunctionDef)]
                self.assertEqual(len(names), len(set(names)), node.name)

    def test_l20_is(self):
        for node in nodes():
            if isinstance(node, ast.Compare):
                for sign, other in zip(node.ops, node.comparators):
                    if isinstance(sign, (ast.Is, ast.IsNot)):
                        self.assertIsInstance(other, ast.Constant)
                        self.assertIn(other.value, (None, True, False))

    def test_l23_iterated_at_once(self):
        for path in FILES:
            fine = set()
            for node in ast.walk(tree_of_file(path)):
                if isinstance(node, (ast.For, ast.comprehension)):
                    fine.add(ast.dump(node.iter, include_attributes=True))
                if isinstance(node, ast.Call) and isinstance(node.func, ast.Name) and node.func.id in TAKERS and node.args:
                    fine.add(ast.dump(node.args[0], include_attributes=True))
            for node in ast.walk(tree_of_file(path)):
                if isinstance(node, ast.Call):
                    name = getattr(node.func, "id", getattr(node.func, "attr", None))
                    if name in ("zip", "enumerate", "reversed", "range", "items", "keys", "values"):
                        self.assertIn(ast.dump(node, include_attributes=True), fine, path.name)

    def test_l23_what_a_loop_goes_over_is_not_changed_in_it(self):
        for node in nodes():
            if isinstance(node, ast.For):
                over = {ast.dump(part) for part in ast.walk(node.iter) if isinstance(part, (ast.Name, ast.Attribute))}
                for part in [part for row in node.body for part in ast.walk(row)]:
                    if isinstance(part, ast.Call) and isinstance(part.func, ast.Attribute) and part.func.attr in CHANGES:
                        self.assertNotIn(ast.dump(part.func.value), over)
                    if isinstance(part, ast.Subscript) and not isinstance(part.ctx, ast.Load):
                        self.assertNotIn(ast.dump(part.value), over)

    def test_l19_names_of_caught_errors(self):
        for node in nodes():
            if isinstance(node, ast.FunctionDef):
                names = [each.name for each in ast.walk(node) if isinstance(each, ast.ExceptHandler) and each.name]
                stored = [each.id for each in ast.walk(node) if isinstance(each, ast.Name) and isinstance(each.ctx, ast.Store)]
                self.assertEqual(len(names + stored), len(names) + len([each for each in stored if each not in names]))
                self.assertEqual(len(names), len(set(names)), node.name)

    def test_l25_methods_of_builtin_values(self):
        known = set(METHODS) | own_methods()
        for node in nodes():
            if isinstance(node, ast.Call) and isinstance(node.func, ast.Attribute):
                self.assertIn(node.func.attr, known)

    def test_l26_attributes(self):
        self.assertEqual(own_attributes() & set(BARRED_ATTRIBUTES), set())

    def test_l17_words(self):
        for path in FILES:
            text = path.read_text(encoding="ascii")
            for word in BARRED:
                self.assertIsNone(re.search(r"\b" + word + r"\b", text), word)
            for part in ("dataclass", "overload", "contextmanager"):
                self.assertNotIn(part, text)

    def test_l27_strings(self):
        for path in FILES:
            for node in ast.walk(tree_of_file(path)):
                if isinstance(node, ast.Constant) and isinstance(node.value, str):
                    self.assertNotIn("%", node.value)
                self.assertFalse(isinstance(node, ast.Constant) and isinstance(node.value, float))


if __name__ == "__main__":
    unittest.main()
