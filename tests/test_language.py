"""The rules of LANGUAGE.md that can be looked at simply, for each file of the package."""

import ast
import unittest
from pathlib import Path

PACKAGE = Path(__file__).resolve().parent.parent / "rootwheel"
FILES = sorted(PACKAGE.rglob("*.py"))
LIBRARY = {
    "math": {"gcd", "lcm", "isqrt", "comb", "perm", "factorial"},
    "heapq": {"heappush", "heappop", "heapify", "heapreplace", "heappushpop"},
    "itertools": {
        "product", "combinations", "permutations", "chain", "accumulate", "pairwise", "islice", "zip_longest",
    },
    "collections": {"defaultdict"},
    "__future__": {"annotations"},
}
BUILTINS = set("""len range enumerate zip min max sum abs sorted reversed int str bool list tuple dict set
isinstance ord repr any all divmod pow getattr hasattr setattr iter next map super property Exception ValueError
TypeError KeyError IndexError LookupError ZeroDivisionError ArithmeticError OverflowError RuntimeError
NotImplementedError AttributeError StopIteration NotImplemented staticmethod classmethod""".split())
BARRED = (
    ast.Global, ast.AsyncFunctionDef, ast.AsyncFor, ast.AsyncWith, ast.Await, ast.Div, ast.MatMult, ast.TryStar,
)
WORDS = """type typing typing_extensions enum Enum IntEnum StrEnum Flag IntFlag Generic Protocol ABC ABCMeta namedtuple
NamedTuple TypedDict TYPE_CHECKING abstractmethod register mro elements open input law version_info attrgetter
breakpoint builtins compile copyright credits delattr dir eval exec exit gc globals help id importlib license locals
methodcaller os quit vars sys""".split()
TOP = (ast.Import, ast.ImportFrom, ast.FunctionDef, ast.ClassDef, ast.Assign, ast.AnnAssign)


def is_text(node):
    return isinstance(node, ast.Expr) and isinstance(node.value, ast.Constant) and isinstance(node.value.value, str)


class Language(unittest.TestCase):
    def nodes(self):
        for path in FILES:
            for node in ast.walk(ast.parse(path.read_text())):
                yield path.name, node

    def test_files(self):
        self.assertTrue((PACKAGE / "__init__.py").is_file())
        for path in PACKAGE.rglob("*"):
            if path.is_file() and path.parent.name != "__pycache__":
                self.assertEqual(path.suffix, ".py", path)
                self.assertEqual(path.name, path.name.lower())

    def test_size_and_characters(self):
        for path in FILES:
            text = path.read_bytes()
            self.assertTrue(all(sign == 10 or 32 <= sign <= 126 for sign in text), path)
            rows = text.decode("ascii").split("\n")
            self.assertLessEqual(len(rows), 400, path)
            self.assertLessEqual(max(len(row) for row in rows), 120, path)

    def test_functions_are_small(self):
        for name, node in self.nodes():
            if isinstance(node, ast.FunctionDef):
                self.assertLessEqual(node.end_lineno - node.lineno + 1, 40, (name, node.name))

    def test_module_level(self):
        for path in FILES:
            if path.name != "__main__.py":
                for node in ast.parse(path.read_text()).body:
                    self.assertTrue(is_text(node) or isinstance(node, TOP), (path, node.lineno))

    def test_imports(self):
        for name, node in self.nodes():
            if isinstance(node, ast.Import):
                self.assertEqual((name, [alias.name for alias in node.names]), ("__main__.py", ["sys"]))
            if isinstance(node, ast.ImportFrom):
                self.assertEqual(node.level, 0, name)
                taken = {alias.name for alias in node.names}
                if not node.module.startswith("rootwheel."):
                    self.assertLessEqual(taken, LIBRARY[node.module], name)

    def test_imported_names_and_classes_mean_one_thing(self):
        for path in FILES:
            nodes = list(ast.walk(ast.parse(path.read_text())))
            taken = [alias.name for node in nodes if isinstance(node, ast.ImportFrom) for alias in node.names]
            taken += [node.name for node in nodes if isinstance(node, ast.ClassDef)]
            self.assertEqual(len(taken), len(set(taken)), path)
            bound = [node.arg for node in nodes if isinstance(node, ast.arg)]
            bound += [node.name for node in nodes if isinstance(node, ast.FunctionDef)]
            bound += [node.id for node in nodes if isinstance(node, ast.Name) and not isinstance(node.ctx, ast.Load)]
            self.assertEqual([name for name in bound if name in taken], [], path)
            self.assertEqual([name for name in bound if name in WORDS], [], path)
            # What a bare underscore takes is never read.
            read = [node.id for node in nodes if isinstance(node, ast.Name) and isinstance(node.ctx, ast.Load)]
            self.assertNotIn("_", read, path)

    def test_powers_are_plain(self):
        for name, node in self.nodes():
            if isinstance(node, (ast.BinOp, ast.AugAssign)) and isinstance(node.op, ast.Pow):
                power = node.right if isinstance(node, ast.BinOp) else node.value
                self.assertIsInstance(power, ast.Constant, (name, node.lineno))

    def test_words(self):
        known = vars(__import__("builtins"))
        for name, node in self.nodes():
            where = (name, getattr(node, "lineno", 0))
            self.assertNotIsInstance(node, BARRED, where)
            if isinstance(node, ast.Name) and node.id in known:
                self.assertIn(node.id, BUILTINS, where)
                self.assertIsInstance(node.ctx, ast.Load, where)
            if isinstance(node, (ast.FunctionDef, ast.ClassDef)):
                self.assertNotIn(node.name, BUILTINS, where)
            if isinstance(node, ast.arg):
                self.assertNotIn(node.arg, known, where)
            if isinstance(node, ast.Constant):
                self.assertNotIsInstance(node.value, (float, complex), where)
                if isinstance(node.value, str):
                    self.assertNotIn("\x25", node.value, where)


if __name__ == "__main__":
    unittest.main()
