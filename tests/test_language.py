"""The package keeps to the subset of Python: those rules that can be seen in the text."""

import ast
import builtins
import pathlib
import re
import unittest

ROOT = pathlib.Path(__file__).resolve().parent.parent / "roadcall"
FILES = sorted(ROOT.glob("*.py"))
BUILTINS = set("""len range enumerate zip min max sum abs sorted reversed int str bool bytes list tuple
    dict set isinstance ord repr any all divmod Exception ValueError TypeError KeyError IndexError
    LookupError ZeroDivisionError ArithmeticError OverflowError RuntimeError NotImplementedError
    super""".split())
METHODS = set("""append clear copy count endswith extend find get index insert isalnum isalpha isdigit
    islower isspace isupper items join keys ljust lower lstrip partition pop remove replace reverse rfind
    rjust rpartition rsplit rstrip setdefault split splitlines startswith strip update upper values zfill
    bit_length add discard sort""".split())
BARRED_NAMES = set("""register mro elements open input version_info with_traceback add_note attrgetter
    breakpoint compile copyright credits delattr dir eval exec exit gc getattr globals hasattr help id
    importlib license locals methodcaller os quit setattr type vars sys""".split())
BARRED_WORDS = set("""type typing typing_extensions enum Enum IntEnum StrEnum Flag IntFlag Generic Protocol
    ABC ABCMeta namedtuple NamedTuple TypedDict TYPE_CHECKING abstractmethod""".split())
STATEMENTS = (ast.Import, ast.Global, ast.AsyncFunctionDef, ast.AsyncFor, ast.AsyncWith, ast.NamedExpr,
              ast.Div, ast.Await)
FUNCTIONS = (ast.FunctionDef, ast.Lambda)


def trees():
    return [(path, path.read_text(), ast.parse(path.read_text())) for path in FILES]


def bound_names(tree):
    """Every name that the file gives a meaning, with its line."""
    for node in ast.walk(tree):
        if isinstance(node, ast.Name) and isinstance(node.ctx, (ast.Store, ast.Del)):
            yield node.id, node.lineno
        elif isinstance(node, ast.arg):
            yield node.arg, node.lineno
        elif isinstance(node, (ast.FunctionDef, ast.ClassDef)):
            yield node.name, node.lineno
        elif isinstance(node, ast.ImportFrom):
            for alias in node.names:
                yield alias.asname or alias.name, node.lineno
        elif isinstance(node, ast.ExceptHandler) and node.name:
            yield node.name, node.lineno


def top_names(tree):
    """What the file defines at module level, imports left out."""
    names = []
    for node in tree.body:
        if isinstance(node, (ast.FunctionDef, ast.ClassDef)):
            names.append(node.name)
        elif isinstance(node, ast.Assign):
            names.extend(target.id for target in node.targets)
    return names


def imports(tree):
    return [node for node in ast.walk(tree) if isinstance(node, ast.ImportFrom)]


class Language(unittest.TestCase):
    def test_files(self):
        kept = [path for path in ROOT.iterdir() if path.name != "__pycache__"]
        self.assertEqual(sorted(kept), FILES)
        for path in FILES:
            self.assertRegex(path.name, r"^(__init__|[a-z][a-z0-9_]*)\.py$")

    def test_characters_and_sizes(self):
        for path, text, _ in trees():
            self.assertRegex(text, r"\A[\n -~]*\Z", path.name)
            lines = text.splitlines()
            self.assertLessEqual(len(lines), 400, path.name)
            self.assertTrue(all(len(line) <= 120 for line in lines), path.name)

    def test_size_of_functions(self):
        for path, _, tree in trees():
            for node in ast.walk(tree):
                if isinstance(node, ast.FunctionDef):
                    self.assertLessEqual(node.end_lineno - node.lineno + 1, 40, (path.name, node.name))

    def test_barred_words(self):
        for path, text, _ in trees():
            self.assertEqual(BARRED_WORDS & set(re.findall(r"\w+", text)), set(), path.name)
            self.assertIsNone(re.search("dataclass|overload|contextmanager", text), path.name)

    def test_module_level(self):
        for path, _, tree in trees():
            for node in tree.body:
                plain = isinstance(node, (ast.ImportFrom, ast.FunctionDef, ast.ClassDef, ast.Assign))
                docstring = isinstance(node, ast.Expr) and isinstance(node.value, ast.Constant)
                self.assertTrue(plain or docstring, (path.name, node.lineno))
            names = top_names(tree) + [alias.name for node in imports(tree) for alias in node.names]
            self.assertEqual(len(names), len(set(names)), path.name)

    def test_imports_name_the_file_that_defines(self):
        defined = {path.stem: top_names(tree) for path, _, tree in trees()}
        for path, _, tree in trees():
            for node in imports(tree):
                self.assertEqual(node.level, 0, path.name)
                package, _, module = node.module.partition(".")
                self.assertEqual(package, "roadcall", path.name)
                for alias in node.names:
                    self.assertIn(alias.name, defined[module], path.name)

    def test_no_two_files_import_from_each_other(self):
        needs = {path.stem: {node.module.partition(".")[2] for node in imports(tree)} for path, _, tree in trees()}
        while needs:
            free = [name for name in needs if not needs[name] & set(needs)]
            self.assertTrue(free, needs)
            for name in free:
                del needs[name]

    def test_names(self):
        for path, _, tree in trees():
            imported = {alias.name for node in imports(tree) for alias in node.names}
            for name, line in bound_names(tree):
                where = (path.name, line, name)
                self.assertNotIn(name, BARRED_NAMES, where)
                self.assertTrue(name == "__init__" or not name.startswith("_"), where)
                self.assertTrue(name == "__init__" or not hasattr(builtins, name), where)
            inner = {node.arg for node in ast.walk(tree) if isinstance(node, ast.arg)}
            inner |= {node.id for node in ast.walk(tree)
                      if isinstance(node, ast.Name) and isinstance(node.ctx, ast.Store)}
            self.assertEqual(inner & imported, set(), path.name)

    def test_builtins(self):
        for path, _, tree in trees():
            for node in ast.walk(tree):
                if isinstance(node, ast.Name) and hasattr(builtins, node.id):
                    self.assertIn(node.id, BUILTINS, (path.name, node.lineno))

    def test_methods(self):
        own = {node.name for _, _, tree in trees() for node in ast.walk(tree) if isinstance(node, FUNCTIONS[0])}
        for path, _, tree in trees():
            for node in ast.walk(tree):
                if isinstance(node, ast.Call) and isinstance(node.func, ast.Attribute):
                    self.assertIn(node.func.attr, METHODS | own, (path.name, node.lineno))

    def test_statements_and_expressions(self):
        for path, _, tree in trees():
            for node in ast.walk(tree):
                where = (path.name, getattr(node, "lineno", 0))
                self.assertNotIsInstance(node, STATEMENTS, where)
                if isinstance(node, ast.Constant):
                    self.assertNotIsInstance(node.value, (float, complex), where)
                    self.assertFalse(isinstance(node.value, str) and "%" in node.value, where)
                if isinstance(node, ast.BinOp) and isinstance(node.op, ast.Pow):
                    self.assertIsInstance(node.right, ast.Constant, where)
                if isinstance(node, ast.FunctionDef):
                    self.assertEqual(node.decorator_list, [], where)

    def test_is(self):
        for path, _, tree in trees():
            for node in ast.walk(tree):
                if isinstance(node, ast.Compare):
                    for op, right in zip(node.ops, node.comparators):
                        if isinstance(op, (ast.Is, ast.IsNot)):
                            self.assertIn(getattr(right, "value", "other"), (None, True, False), path.name)


if __name__ == "__main__":
    unittest.main()
