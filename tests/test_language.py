"""Those rules of the language that can be told from the source of the package alone."""

import ast
import builtins
import os
import re
import unittest

ROOT = os.path.dirname(os.path.dirname(os.path.abspath(__file__)))
PACKAGE = os.path.join(ROOT, "anchoredits")

LIBRARY = {
    "heapq": ["heappush", "heappop", "heapify", "heapreplace", "heappushpop"],
    "math": ["gcd", "lcm", "isqrt", "comb", "perm", "factorial"],
    "itertools": ["product", "combinations", "permutations"],
    "__future__": ["annotations"],
}

BUILTINS = """
len range enumerate zip min max sum abs sorted reversed int str bool list tuple dict set isinstance ord repr any all
divmod Exception ValueError TypeError KeyError IndexError LookupError ZeroDivisionError ArithmeticError OverflowError
RuntimeError NotImplementedError AttributeError StopIteration NotImplemented iter next map super property
staticmethod classmethod bytes object
""".split()

# Without the name _, which the examples of README.md leave behind when they have run.
ALL_BUILTINS = [name for name in dir(builtins) if name != "_"]

BARRED_WORDS = re.compile(
    r"\b(type|typing|typing_extensions|enum|Enum|IntEnum|StrEnum|Flag|IntFlag|Generic|Protocol|ABC|ABCMeta|namedtuple"
    r"|NamedTuple|TypedDict|TYPE_CHECKING|abstractmethod)\b|dataclass|overload|contextmanager|_wall|_WallAttr")

DECORATORS = re.compile(r"property|staticmethod|classmethod|\w+\.setter")

BARRED_NODES = (
    ast.Global, ast.AsyncFunctionDef, ast.AsyncFor, ast.AsyncWith, ast.Await, ast.Div, ast.MatMult,
)


class SourcesTest(unittest.TestCase):
    def setUp(self):
        self.sources = {}
        for folder, _, files in os.walk(PACKAGE):
            if os.path.basename(folder) == "__pycache__":
                continue
            for file in files:
                with open(os.path.join(folder, file), encoding="utf-8", newline="") as held:
                    self.sources[os.path.relpath(os.path.join(folder, file), PACKAGE)] = held.read()
        self.trees = {file: ast.parse(source) for file, source in self.sources.items()}

    def nodes(self):
        for file, tree in self.trees.items():
            for node in ast.walk(tree):
                yield f"{file}:{getattr(node, 'lineno', 0)}", node


class LanguageTest(SourcesTest):
    def test_files(self):
        self.assertIn("__init__.py", self.sources)
        for file in self.sources:
            self.assertRegex(file, r"^(__init__|__main__|[a-z][a-z0-9_]*)\.py$")
            self.assertNotIn(file[:-len(".py")], ALL_BUILTINS)
        self.assertLessEqual(len(self.sources), 100)

    def test_characters(self):
        for file, source in self.sources.items():
            wrong = [character for character in source if character != "\n" and not " " <= character <= "~"]
            self.assertEqual(wrong, [], file)

    def test_sizes(self):
        for file, source in self.sources.items():
            rows = source.splitlines()
            self.assertLessEqual(len(rows), 399, file)
            self.assertLessEqual(max([len(row) for row in rows], default=0), 120, file)
        for place, node in self.nodes():
            if isinstance(node, ast.FunctionDef):
                self.assertLessEqual(node.end_lineno - node.lineno + 1, 40, place)

    def test_imports(self):
        modules = ["anchoredits." + file[:-len(".py")] for file in self.sources]
        for place, node in self.nodes():
            self.assertNotIsInstance(node, ast.Import, place)
            if isinstance(node, ast.ImportFrom):
                self.assertEqual(node.level, 0, place)
                for name in node.names:
                    self.assertTrue(node.module in modules or name.name in LIBRARY.get(node.module, []), place)
                    self.assertIsNone(name.asname, place)

    def test_strings(self):
        for place, node in self.nodes():
            self.assertFalse(isinstance(node, ast.Constant) and isinstance(node.value, (float, complex)), place)
            if isinstance(node, ast.Constant) and isinstance(node.value, str):
                self.assertNotIn("%", node.value, place)

    def test_barred_words(self):
        for file, tree in self.trees.items():
            # What is written back from the tree has no comments.
            self.assertIsNone(BARRED_WORDS.search(ast.unparse(tree)), file)

    def test_builtins(self):
        for place, node in self.nodes():
            if isinstance(node, ast.Name) and node.id in ALL_BUILTINS:
                self.assertIn(node.id, BUILTINS, place)
                self.assertIsInstance(node.ctx, ast.Load, place)
            if isinstance(node, (ast.FunctionDef, ast.ClassDef)) and not node.name.startswith("__"):
                self.assertNotIn(node.name, ALL_BUILTINS, place)
            if isinstance(node, ast.arg):
                self.assertNotIn(node.arg, ALL_BUILTINS, place)

    def test_statements(self):
        for place, node in self.nodes():
            self.assertNotIsInstance(node, BARRED_NODES, place)
            if isinstance(node, ast.ExceptHandler):
                self.assertIsNotNone(node.type, place)
            if isinstance(node, ast.ClassDef):
                self.assertEqual(node.decorator_list, [], place)
            if isinstance(node, ast.FunctionDef):
                for decorator in node.decorator_list:
                    self.assertRegex(ast.unparse(decorator), DECORATORS, place)

    def test_module_level(self):
        allowed = (ast.Import, ast.ImportFrom, ast.FunctionDef, ast.ClassDef, ast.Assign, ast.AnnAssign)
        for file, tree in self.trees.items():
            names = []
            for node in tree.body:
                docstring = isinstance(node, ast.Expr) and isinstance(node.value, ast.Constant) and node is tree.body[0]
                self.assertTrue(docstring or isinstance(node, allowed), f"{file}:{node.lineno}")
                if isinstance(node, (ast.FunctionDef, ast.ClassDef)):
                    names.append(node.name)
                if isinstance(node, ast.Assign):
                    names += [target.id for target in node.targets]
                if isinstance(node, ast.ImportFrom):
                    names += [name.name for name in node.names]
            self.assertEqual(len(names), len(set(names)), file)

    def test_names_of_imports_and_classes(self):
        for file, tree in self.trees.items():
            kept = [name.name for node in tree.body if isinstance(node, ast.ImportFrom) for name in node.names]
            kept += [node.name for node in tree.body if isinstance(node, ast.ClassDef)]
            used = [node.id for node in ast.walk(tree) if isinstance(node, ast.Name)]
            for node in ast.walk(tree):
                if isinstance(node, ast.arg):
                    self.assertNotIn(node.arg, kept, f"{file}:{node.lineno}")
                if isinstance(node, ast.Name) and isinstance(node.ctx, ast.Store):
                    self.assertNotIn(node.id, kept, f"{file}:{node.lineno}")
                if isinstance(node, ast.ImportFrom):
                    for name in node.names:
                        self.assertIn(name.name, used, f"{file}:{node.lineno}")

    def test_no_imports_in_a_circle(self):
        needs = {}
        for file, tree in self.trees.items():
            needs[file] = [node.module.split(".")[-1] + ".py" for node in tree.body
                           if isinstance(node, ast.ImportFrom) and node.module.startswith("anchoredits.")]
        while needs:
            free = [file for file in needs if not any(needed in needs for needed in needs[file])]
            self.assertTrue(free, needs)
            for file in free:
                del needs[file]

    def test_no_sets_and_no_generator_expressions(self):
        # Classes have __eq__: so any, all, sorted and the like take lists. Sets are not needed.
        for place, node in self.nodes():
            self.assertNotIsInstance(node, (ast.GeneratorExp, ast.Set, ast.SetComp), place)
            self.assertNotIn(ast.unparse(node), ("set()", "frozenset()"), place)

    def test_generators_alone_have_their_names(self):
        functions = [node for _, node in self.nodes() if isinstance(node, ast.FunctionDef)]
        names = [node.name for node in functions if any(isinstance(part, ast.Yield) for part in ast.walk(node))]
        self.assertEqual(sorted(names), sorted(node.name for node in functions if node.name in names))
        self.assertEqual(len(names), len(set(names)))
        for place, node in self.nodes():
            if isinstance(node, ast.Name):
                self.assertNotIn(node.id, names, place)


MAKERS = ["list", "dict", "sorted"]
CHANGING = ["append", "extend", "pop", "insert", "remove", "clear", "update", "setdefault", "sort", "reverse", "add"]


class PureTest(SourcesTest):
    """Operators and properties, and all that they call, change only what they have made themselves."""

    def functions(self):
        """A dict from each name to the functions and methods that have it."""
        told = {}
        for _, node in self.nodes():
            if isinstance(node, ast.FunctionDef) and node.name != "__init__":
                told.setdefault(node.name, []).append(node)
            if isinstance(node, ast.ClassDef):
                told[node.name] = [part for part in node.body
                                   if isinstance(part, ast.FunctionDef) and part.name == "__init__"]
        return told

    def pure(self):
        """All functions that operators and properties call, and these themselves."""
        functions = self.functions()
        waiting = [node for nodes in functions.values() for node in nodes if node.decorator_list and ast.unparse(
            node.decorator_list[0]) == "property" or node.name.startswith("__")]
        met = []
        while waiting:
            node = waiting.pop()
            if node in met:
                continue
            met.append(node)
            for part in ast.walk(node):
                if isinstance(part, ast.Call) and isinstance(part.func, ast.Name):
                    waiting += functions.get(part.func.id, [])
        return met

    def made(self, node):
        """The names of lists and dicts that a function makes itself."""
        told = []
        for part in ast.walk(node):
            if isinstance(part, ast.Assign) and (isinstance(part.value, (ast.List, ast.Dict, ast.ListComp)) or isinstance(
                    part.value, ast.Call) and ast.unparse(part.value.func) in MAKERS):
                told += [target.id for target in part.targets if isinstance(target, ast.Name)]
        return told

    def test_pure(self):
        pure = self.pure()
        self.assertIn("blocks_of", [node.name for node in pure])
        for node in pure:
            made = self.made(node)
            for part in ast.walk(node):
                place = f"{node.name}: {ast.unparse(part)[:80]}"
                if isinstance(part, ast.Call) and isinstance(part.func, ast.Attribute) and part.func.attr in CHANGING:
                    self.assertIn(ast.unparse(part.func.value), made, place)
                if isinstance(part, ast.Subscript) and isinstance(part.ctx, ast.Store):
                    self.assertIn(ast.unparse(part.value), made, place)
                if isinstance(part, ast.Attribute) and isinstance(part.ctx, ast.Store):
                    self.assertEqual(node.name, "__init__", place)
                if isinstance(part, ast.AugAssign):
                    self.assertIsInstance(part.value, ast.Constant, place)
                    self.assertIsInstance(part.target, ast.Name, place)
                if isinstance(part, ast.Assign) and isinstance(part.targets[0], ast.Name) and part.targets[0].id in made:
                    self.assertIn(type(part.value), (ast.List, ast.Dict, ast.ListComp, ast.Call), place)


if __name__ == "__main__":
    unittest.main()
