"""What ../shared/LANGUAGE.md asks of the files of the package, as far as a short look can tell."""

import ast
import pathlib
import re
import unittest

PACKAGE = pathlib.Path(__file__).resolve().parent.parent / "snakehall"
FILES = sorted(PACKAGE.rglob("*.py"))
BARRED = (
    "type typing typing_extensions enum Enum IntEnum StrEnum Flag IntFlag Generic Protocol ABC ABCMeta namedtuple "
    "NamedTuple TypedDict TYPE_CHECKING abstractmethod"
).split()
BUILTINS = (
    "len range enumerate zip min max sum abs sorted reversed int str bool bytes list tuple dict set frozenset "
    "isinstance ord repr any all divmod Exception ValueError TypeError KeyError IndexError LookupError "
    "ZeroDivisionError ArithmeticError OverflowError RuntimeError NotImplementedError AttributeError StopIteration "
    "NotImplemented super"
).split()
TOP = (ast.ImportFrom, ast.FunctionDef, ast.ClassDef, ast.Assign, ast.Expr)


def tree_of_file(path):
    return ast.parse(path.read_text(encoding="ascii"))


class Language(unittest.TestCase):
    def test_there_are_files(self):
        self.assertTrue(FILES)

    def test_l1_and_l14_files(self):
        for path in PACKAGE.rglob("*"):
            if "__pycache__" not in path.parts:
                self.assertRegex(path.name, r"^[a-z0-9_]+\.py$")
        self.assertTrue((PACKAGE / "__init__.py").is_file())

    def test_l2_and_l16_imports(self):
        names = {path.stem for path in FILES}
        for path in FILES:
            for node in ast.walk(tree_of_file(path)):
                self.assertNotIsInstance(node, ast.Import)
                if isinstance(node, ast.ImportFrom):
                    self.assertEqual(node.level, 0)
                    package, _, module = node.module.partition(".")
                    self.assertEqual(package, "snakehall")
                    self.assertIn(module, names)
                    self.assertNotIn("*", [each.name for each in node.names])

    def test_l3_module_level(self):
        for path in FILES:
            for node in tree_of_file(path).body:
                self.assertIsInstance(node, TOP, path.name)

    def test_l8_builtins(self):
        known = set(dir(__builtins__)) if not isinstance(__builtins__, dict) else set(__builtins__)
        for path in FILES:
            for node in ast.walk(tree_of_file(path)):
                if isinstance(node, ast.Name) and node.id in known:
                    self.assertIsInstance(node.ctx, ast.Load)
                    self.assertIn(node.id, BUILTINS)
                if isinstance(node, ast.arg):
                    self.assertNotIn(node.arg, known)

    def test_l10_size(self):
        for path in FILES:
            rows = path.read_text(encoding="ascii").split("\n")
            self.assertLessEqual(len(rows), 400)
            self.assertLessEqual(max(len(row) for row in rows), 120)
            for node in ast.walk(tree_of_file(path)):
                if isinstance(node, ast.FunctionDef):
                    self.assertLessEqual(node.end_lineno - node.lineno + 1, 40, node.name)

    def test_l12_plain_names(self):
        for path in FILES:
            for node in ast.walk(tree_of_file(path)):
                for field in ("id", "arg", "attr", "name"):
                    told = getattr(node, field, None)
                    if isinstance(told, str) and told not in ("__init__",):
                        self.assertRegex(told, r"^[A-Za-z][A-Za-z0-9_]*$")

    def test_l14_characters(self):
        for path in FILES:
            self.assertRegex(path.read_bytes().decode("latin-1"), r"\A[ -~\n]*\Z")

    def test_l15_one_binding_for_each_name(self):
        for path in FILES:
            names = []
            for node in tree_of_file(path).body:
                if isinstance(node, ast.ImportFrom):
                    names += [each.asname or each.name for each in node.names]
                elif isinstance(node, ast.Assign):
                    names += [target.id for target in node.targets]
                elif not isinstance(node, ast.Expr):
                    names.append(node.name)
            self.assertEqual(len(names), len(set(names)))

    def test_l17_words(self):
        for path in FILES:
            text = path.read_text(encoding="ascii")
            for word in BARRED:
                self.assertIsNone(re.search(r"\b" + word + r"\b", text), word)
            for part in ("dataclass", "overload", "contextmanager"):
                self.assertNotIn(part, text)

    def test_l27_strings(self):
        for path in FILES:
            for node in ast.walk(tree_of_file(path)):
                if isinstance(node, ast.Constant) and isinstance(node.value, str):
                    self.assertNotIn("%", node.value)
                self.assertFalse(isinstance(node, ast.Constant) and isinstance(node.value, float))


if __name__ == "__main__":
    unittest.main()
