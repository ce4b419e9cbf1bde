"""Those rules of LANGUAGE.md that can be told from the text of a file alone, tried on all files of the package."""

import ast
import builtins
import os
import re
import unittest

TOP = os.path.join(os.path.dirname(os.path.abspath(__file__)), "..", "unseenrest")
LIBRARY = {
    "heapq": "heappush heappop heapify heapreplace heappushpop",
    "math": "gcd lcm isqrt comb perm factorial",
    "itertools": "product combinations permutations chain accumulate pairwise islice zip_longest",
    "collections": "defaultdict",
}
BUILTINS = set(
    "len range enumerate zip min max sum abs sorted reversed int str bool bytes list tuple dict set frozenset isinstance "
    "ord repr any all divmod pow getattr hasattr setattr iter next map super property staticmethod classmethod Exception "
    "ValueError TypeError KeyError IndexError LookupError ZeroDivisionError ArithmeticError OverflowError RuntimeError "
    "NotImplementedError AttributeError StopIteration NotImplemented".split()
)
SPECIAL = set(
    "init eq repr str len enter exit call iter lt le gt ge ne add sub mul floordiv mod pow and or xor lshift rshift "
    "neg pos invert abs bool contains getitem setitem".split()
)
BARRED_NAMES = set("register mro elements open input law version_info with_traceback add_note".split())
BARRED_WORDS = set(
    "typing typing_extensions enum Enum IntEnum StrEnum Flag IntFlag Generic Protocol ABC ABCMeta namedtuple NamedTuple "
    "TypedDict TYPE_CHECKING abstractmethod dataclass overload contextmanager".split()
)
BARRED_NODES = (ast.Global, ast.AsyncFunctionDef, ast.AsyncFor, ast.AsyncWith, ast.Await, ast.Div)
# In a package whose classes compare, these take lists alone.
LISTED_ONLY = ("any", "all", "min", "max", "sum", "sorted")
MODULE_LEVEL = (ast.Import, ast.ImportFrom, ast.FunctionDef, ast.ClassDef, ast.Assign)


def sources():
    for name in sorted(os.listdir(TOP)):
        if name != "__pycache__":
            with open(os.path.join(TOP, name), encoding="utf-8") as file:
                yield name, file.read()


class TestLanguage(unittest.TestCase):
    def nodes(self):
        for name, text in sources():
            for node in ast.walk(ast.parse(text)):
                yield name, node

    def test_files_are_plain_python_files(self):
        for name, text in sources():
            self.assertRegex(name, r"^[a-z0-9_]+\.py$")
            self.assertTrue(all(sign == "\n" or " " <= sign <= "~" for sign in text), name)
            self.assertLessEqual(len(text.split("\n")) - 1, 399, name)
            for line in text.split("\n"):
                self.assertLessEqual(len(line), 120, name)
            code = re.sub(r"#[^\n]*", "", text)
            self.assertFalse(BARRED_WORDS & set(re.findall(r"\w+", code)), name)

    def test_functions_are_short(self):
        for name, node in self.nodes():
            if isinstance(node, ast.FunctionDef):
                self.assertLessEqual(node.end_lineno - node.lineno + 1, 40, f"{name}: {node.name}")

    def test_imports(self):
        for name, node in self.nodes():
            self.assertNotIsInstance(node, ast.Import, name)
            if isinstance(node, ast.ImportFrom):
                self.assertEqual(node.level, 0)
                for one in node.names:
                    self.assertNotEqual(one.name, "*")
                    if not node.module.startswith("unseenrest."):
                        self.assertIn(one.name, LIBRARY[node.module].split())

    def test_statements(self):
        for name, text in sources():
            body = ast.parse(text).body
            for at, node in enumerate(body):
                if at or not isinstance(node, ast.Expr):
                    self.assertIsInstance(node, MODULE_LEVEL, name)
        for name, node in self.nodes():
            self.assertNotIsInstance(node, BARRED_NODES, name)
            if isinstance(node, ast.Constant):
                self.assertNotIsInstance(node.value, (float, complex), name)
                self.assertNotIn("%", str(node.value), name)

    def test_names(self):
        for name, node in self.nodes():
            if isinstance(node, ast.Name):
                self.assertTrue(node.id in BUILTINS or not hasattr(builtins, node.id), f"{name}: {node.id}")
                if isinstance(node.ctx, ast.Store):
                    self.assertNotIn(node.id, BUILTINS)
            for word in (getattr(node, key, None) for key in ("id", "attr", "arg", "name")):
                if isinstance(word, str):
                    self.assertNotIn(word, BARRED_NAMES, name)
                    if word.startswith("__"):
                        self.assertIn(word.strip("_"), SPECIAL, name)
                    else:
                        self.assertRegex(word, r"^_?$|^_?[A-Za-z][A-Za-z0-9_]*$|^unseenrest\.")

    def test_calls_that_take_lists_alone(self):
        for name, node in self.nodes():
            if isinstance(node, ast.Call) and isinstance(node.func, ast.Name) and node.func.id in LISTED_ONLY:
                for one in node.args:
                    self.assertNotIsInstance(one, ast.GeneratorExp, name)

    def test_decorators(self):
        for name, node in self.nodes():
            if isinstance(node, ast.ClassDef):
                self.assertEqual(node.decorator_list, [], name)
            if isinstance(node, ast.FunctionDef):
                for one in node.decorator_list:
                    self.assertRegex(ast.unparse(one), r"^property$|^staticmethod$|^classmethod$|^\w+\.setter$")


if __name__ == "__main__":
    unittest.main()
