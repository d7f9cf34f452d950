"""Those rules of the language that can be told from the source of the package alone."""

import ast
import builtins
import os
import re
import unittest

ROOT = os.path.dirname(os.path.dirname(os.path.abspath(__file__)))
PACKAGE = os.path.join(ROOT, "anchoredits")

LIBRARY = {
    "heapq": ["heappush", "heappop", "heapify", "heapreplace", "heappushpop"],
    "math": ["gcd", "lcm", "isqrt", "comb", "perm", "factorial"],
    "itertools": ["product", "combinations", "permutations"],
    "__future__": ["annotations"],
}

BUILTINS = """
len range enumerate zip min max sum abs sorted reversed int str bool list tuple dict set isinstance ord repr any all
divmod Exception ValueError TypeError KeyError IndexError LookupError ZeroDivisionError ArithmeticError OverflowError
RuntimeError NotImplementedError AttributeError StopIteration NotImplemented iter next map super property
staticmethod classmethod bytes object
""".split()

BARRED_WORDS = re.compile(
    r"\b(type|typing|typing_extensions|enum|Enum|IntEnum|StrEnum|Flag|IntFlag|Generic|Protocol|ABC|ABCMeta|namedtuple"
    r"|NamedTuple|TypedDict|TYPE_CHECKING|abstractmethod)\b|dataclass|overload|contextmanager|_wall|_WallAttr")

DECORATORS = re.compile(r"property|staticmethod|classmethod|\w+\.setter")

BARRED_NODES = (
    ast.Global, ast.AsyncFunctionDef, ast.AsyncFor, ast.AsyncWith, ast.Await, ast.Div, ast.MatMult,
)


class LanguageTest(unittest.TestCase):
    def setUp(self):
        self.sources = {}
        for folder, _, files in os.walk(PACKAGE):
            if os.path.basename(folder) == "__pycache__":
                continue
            for file in files:
                with open(os.path.join(folder, file), encoding="utf-8", newline="") as held:
                    self.sources[os.path.relpath(os.path.join(folder, file), PACKAGE)] = held.read()
        self.trees = {file: ast.parse(source) for file, source in self.sources.items()}

    def nodes(self):
        for file, tree in self.trees.items():
            for node in ast.walk(tree):
                yield f"{file}:{getattr(node, 'lineno', 0)}", node

    def test_files(self):
        self.assertIn("__init__.py", self.sources)
        for file in self.sources:
            self.assertRegex(file, r"^(__init__|__main__|[a-z][a-z0-9_]*)\.py$")
            self.assertNotIn(file[:-len(".py")], dir(builtins))
        self.assertLessEqual(len(self.sources), 100)

    def test_characters(self):
        for file, source in self.sources.items():
            wrong = [character for character in source if character != "\n" and not " " <= character <= "~"]
            self.assertEqual(wrong, [], file)

    def test_sizes(self):
        for file, source in self.sources.items():
            rows = source.splitlines()
            self.assertLessEqual(len(rows), 399, file)
            self.assertLessEqual(max([len(row) for row in rows], default=0), 120, file)
        for place, node in self.nodes():
            if isinstance(node, ast.FunctionDef):
                self.assertLessEqual(node.end_lineno - node.lineno + 1, 40, place)

    def test_imports(self):
        modules = ["anchoredits." + file[:-len(".py")] for file in self.sources]
        for place, node in self.nodes():
            self.assertNotIsInstance(node, ast.Import, place)
            if isinstance(node, ast.ImportFrom):
                self.assertEqual(node.level, 0, place)
                for name in node.names:
                    self.assertTrue(node.module in modules or name.name in LIBRARY.get(node.module, []), place)
                    self.assertIsNone(name.asname, place)

    def test_strings(self):
        for place, node in self.nodes():
            self.assertFalse(isinstance(node, ast.Constant) and isinstance(node.value, (float, complex)), place)
            if isinstance(node, ast.Constant) and isinstance(node.value, str):
                self.assertNotIn("%", node.value, place)

    def test_barred_words(self):
        for file, tree in self.trees.items():
            # What is written back from the tree has no comments.
            self.assertIsNone(BARRED_WORDS.search(ast.unparse(tree)), file)

    def test_builtins(self):
        for place, node in self.nodes():
            if isinstance(node, ast.Name) and node.id in dir(builtins):
                self.assertIn(node.id, BUILTINS, place)
                self.assertIsInstance(node.ctx, ast.Load, place)
            if isinstance(node, (ast.FunctionDef, ast.ClassDef)) and not node.name.startswith("__"):
                self.assertNotIn(node.name, dir(builtins), place)
            if isinstance(node, ast.arg):
                self.assertNotIn(node.arg, dir(builtins), place)

    def test_statements(self):
        for place, node in self.nodes():
            self.assertNotIsInstance(node, BARRED_NODES, place)
            if isinstance(node, ast.ExceptHandler):
                self.assertIsNotNone(node.type, place)
            if isinstance(node, ast.ClassDef):
                self.assertEqual(node.decorator_list, [], place)
            if isinstance(node, ast.FunctionDef):
                for decorator in node.decorator_list:
                    self.assertRegex(ast.unparse(decorator), DECORATORS, place)

    def test_module_level(self):
        allowed = (ast.Import, ast.ImportFrom, ast.FunctionDef, ast.ClassDef, ast.Assign, ast.AnnAssign)
        for file, tree in self.trees.items():
            names = []
            for node in tree.body:
                docstring = isinstance(node, ast.Expr) and isinstance(node.value, ast.Constant) and node is tree.body[0]
                self.assertTrue(docstring or isinstance(node, allowed), f"{file}:{node.lineno}")
                if isinstance(node, (ast.FunctionDef, ast.ClassDef)):
                    names.append(node.name)
                if isinstance(node, ast.Assign):
                    names += [target.id for target in node.targets]
                if isinstance(node, ast.ImportFrom):
                    names += [name.name for name in node.names]
            self.assertEqual(len(names), len(set(names)), file)


if __name__ == "__main__":
    unittest.main()
