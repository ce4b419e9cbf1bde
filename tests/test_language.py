"""Those rules of LANGUAGE.md that can be told from the text of a file alone, tried on all files of the package."""

import ast
import builtins
import os
import re
import unittest

TOP = os.path.join(os.path.dirname(os.path.abspath(__file__)), "..", "unseenrest")
LIBRARY = {
    "heapq": "heappush heappop heapify heapreplace heappushpop",
    "math": "gcd lcm isqrt comb perm factorial",
    "itertools": "product combinations permutations chain accumulate pairwise islice zip_longest",
    "collections": "defaultdict",
}
BUILTINS = set(
    "len range enumerate zip min max sum abs sorted reversed int str bool bytes list tuple dict set frozenset isinstance "
    "ord repr any all divmod pow getattr hasattr setattr iter next map super property staticmethod classmethod Exception "
    "ValueError TypeError KeyError IndexError LookupError ZeroDivisionError ArithmeticError OverflowError RuntimeError "
    "NotImplementedError AttributeError StopIteration NotImplemented".split()
)
SPECIAL = set(
    "init eq repr str len enter exit call iter lt le gt ge ne add sub mul floordiv mod pow and or xor lshift rshift "
    "neg pos invert abs bool contains getitem setitem".split()
)
BARRED_NAMES = set("register mro elements open input law version_info with_traceback add_note".split())
BARRED_WORDS = set(
    "typing typing_extensions enum Enum IntEnum StrEnum Flag IntFlag Generic Protocol ABC ABCMeta namedtuple NamedTuple "
    "TypedDict TYPE_CHECKING abstractmethod dataclass overload contextmanager".split()
)
BARRED_NODES = (ast.Global, ast.AsyncFunctionDef, ast.AsyncFor, ast.AsyncWith, ast.Await, ast.Div)
# In a package whose classes compare, these take lists alone.
LISTED_ONLY = ("any", "all", "min", "max", "sum", "sorted")
# The methods of builtin values that the rules allow and the files use.
METHODS = set("append extend index items join pop split bit_length".split())
MODULE_LEVEL = (ast.Import, ast.ImportFrom, ast.FunctionDef, ast.ClassDef, ast.Assign)


def sources():
    for name in sorted(os.listdir(TOP)):
        if name != "__pycache__":
            with open(os.path.join(TOP, name), encoding="utf-8") as file:
                yield name, file.read()


class TestLanguage(unittest.TestCase):
    def nodes(self):
        for name, text in sources():
            for node in ast.walk(ast.parse(text)):
                yield name, node

    def test_files_are_plain_python_files(self):
        for name, text in sources():
            self.assertRegex(name, r"^[a-z0-9_]+\.py$")
            self.assertTrue(all(sign == "\n" or " " <= sign <= "~" for sign in text), name)
            self.assertLessEqual(len(text.split("\n")) - 1, 399, name)
            for line in text.split("\n"):
                self.assertLessEqual(len(line), 120, name)
            code = re.sub(r"#[^\n]*", "", text)
            self.assertFalse(BARRED_WORDS & set(re.findall(r"\w+", code)), name)

    def test_functions_are_short(self):
        for name, node in self.nodes():
            if isinstance(node, ast.FunctionDef):
                self.assertLessEqual(node.end_lineno - node.lineno + 1, 40, f"{name}: {node.name}")

    def test_imports(self):
        for name, node in self.nodes():
            self.assertNotIsInstance(node, ast.Import, name)
            if isinstance(node, ast.ImportFrom):
                self.assertEqual(node.level, 0)
                for one in node.names:
                    self.assertNotEqual(one.name, "*")
                    if not node.module.startswith("unseenrest."):
                        self.assertIn(one.name, LIBRARY[node.module].split())

    def test_statements(self):
        for name, text in sources():
            body = ast.parse(text).body
            for at, node in enumerate(body):
                if at or not isinstance(node, ast.Expr):
                    self.assertIsInstance(node, MODULE_LEVEL, name)
        for name, node in self.nodes():
            self.assertNotIsInstance(node, BARRED_NODES, name)
            if isinstance(node, ast.Constant):
                self.assertNotIsInstance(node.value, (float, complex), name)
                self.assertNotIn("%", str(node.value), name)

    def test_names(self):
        for name, node in self.nodes():
            if isinstance(node, ast.Name):
                # A doctest binds the name _ among the builtins.
                allowed = node.id in BUILTINS or node.id == "_" or not hasattr(builtins, node.id)
                self.assertTrue(allowed, f"{name}: {node.id}")
                if isinstance(node.ctx, ast.Store):
                    self.assertNotIn(node.id, BUILTINS)
            for word in (getattr(node, key, None) for key in ("id", "attr", "arg", "name")):
                if isinstance(word, str):
                    self.assertNotIn(word, BARRED_NAMES, name)
                    if word.startswith("__"):
                        self.assertIn(word.strip("_"), SPECIAL, name)
                    else:
                        self.assertRegex(word, r"^_?$|^_?[A-Za-z][A-Za-z0-9_]*$|^unseenrest\.")

    def test_calls_that_take_lists_alone(self):
        for name, node in self.nodes():
            if isinstance(node, ast.Call) and isinstance(node.func, ast.Name) and node.func.id in LISTED_ONLY:
                for one in node.args:
                    self.assertNotIsInstance(one, ast.GeneratorExp, name)

    def test_stars_stand_before_names_and_attributes(self):
        for name, node in self.nodes():
            if isinstance(node, ast.Call):
                for one in node.args:
                    if isinstance(one, ast.Starred):
                        self.assertIsInstance(one.value, (ast.Name, ast.Attribute), name)

    def test_is_stands_beside_constants(self):
        for name, node in self.nodes():
            if isinstance(node, ast.Compare) and isinstance(node.ops[0], (ast.Is, ast.IsNot)):
                self.assertIsInstance(node.comparators[0], ast.Constant, name)

    def test_no_variable_has_the_name_of_an_import_or_a_class(self):
        for name, text in sources():
            tree = ast.parse(text)
            taken = {one.name for node in ast.walk(tree) if isinstance(node, ast.ImportFrom) for one in node.names}
            taken |= {node.name for node in ast.walk(tree) if isinstance(node, ast.ClassDef)}
            for node in ast.walk(tree):
                if isinstance(node, ast.Name) and isinstance(node.ctx, ast.Store):
                    self.assertNotIn(node.id, taken, name)
                if isinstance(node, ast.arg):
                    self.assertNotIn(node.arg, taken, name)

    def test_imports_name_the_file_that_defines_the_name(self):
        trees = {name[:-3]: ast.parse(text) for name, text in sources()}
        made = {name: {line for node in tree.body for line in self.bound(node)} for name, tree in trees.items()}
        seen = {name: set() for name in trees}
        for name, tree in trees.items():
            for node in ast.walk(tree):
                if isinstance(node, ast.ImportFrom) and node.module.startswith("unseenrest."):
                    source = node.module.split(".")[1]
                    seen[name].add(source)
                    for one in node.names:
                        self.assertIn(one.name, made[source], name)
        while seen:
            free = [name for name in seen if not seen[name] & set(seen)]
            self.assertTrue(free, f"these import from each other: {sorted(seen)}")
            seen = {name: seen[name] for name in seen if name not in free}

    def bound(self, node):
        """The names that a statement at module level defines."""
        if isinstance(node, (ast.FunctionDef, ast.ClassDef)):
            return [node.name]
        return [one.id for one in node.targets] if isinstance(node, ast.Assign) else []

    def test_methods_that_are_called(self):
        own = {node.name for name, node in self.nodes() if isinstance(node, ast.FunctionDef)}
        for name, node in self.nodes():
            if isinstance(node, ast.Call) and isinstance(node.func, ast.Attribute):
                self.assertIn(node.func.attr, own | METHODS, name)

    def test_generators_are_iterated_at_once(self):
        made = {
            node.name for name, node in self.nodes() if isinstance(node, ast.FunctionDef)
            and any(isinstance(inner, (ast.Yield, ast.YieldFrom)) for inner in ast.walk(node))
        }
        allowed = set()
        for name, node in self.nodes():
            if isinstance(node, (ast.For, ast.comprehension)):
                allowed.add(ast.unparse(node.iter))
            if isinstance(node, ast.Call) and isinstance(node.func, ast.Name) and node.func.id in ("list", "tuple"):
                allowed.add(ast.unparse(node.args[0]))
        for name, node in self.nodes():
            if isinstance(node, ast.Call) and isinstance(node.func, ast.Name) and node.func.id in made:
                self.assertIn(ast.unparse(node), allowed, name)

    def test_only_class_values_are_read_off_a_class(self):
        made = {node.name for name, node in self.nodes() if isinstance(node, ast.ClassDef)}
        for name, node in self.nodes():
            if isinstance(node, ast.Attribute) and isinstance(node.value, ast.Name) and node.value.id in made:
                self.assertRegex(node.attr, "^[A-Z]+$", name)

    def test_super_calls_methods_alone(self):
        for name, node in self.nodes():
            if isinstance(node, ast.FunctionDef):
                for inner in ast.walk(node):
                    if isinstance(inner, ast.Attribute) and ast.unparse(inner.value) == "super()":
                        self.assertTrue(inner.attr == node.name, name)

    def test_what_stands_in_a_finally(self):
        for name, node in self.nodes():
            if isinstance(node, ast.Try):
                for inner in node.finalbody:
                    self.assertIsInstance(inner, ast.Assign, name)
                    self.assertIsInstance(inner.value, ast.Constant, name)

    def test_decorators(self):
        for name, node in self.nodes():
            if isinstance(node, ast.ClassDef):
                self.assertEqual(node.decorator_list, [], name)
            if isinstance(node, ast.FunctionDef):
                for one in node.decorator_list:
                    self.assertRegex(ast.unparse(one), r"^property$|^staticmethod$|^classmethod$|^\w+\.setter$")


if __name__ == "__main__":
    unittest.main()
