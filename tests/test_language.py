"""Some rules of LANGUAGE.md that a test can see, over every file of the package."""

import ast
import pathlib
import re
import unittest

FOLDER = pathlib.Path(__file__).resolve().parent.parent / "roomtold"
LIBRARY = {"heapq", "math", "itertools", "collections"}
BUILTINS = set("""
    len range enumerate zip min max sum abs sorted reversed int str bool list tuple dict set isinstance ord repr any all
    divmod pow getattr hasattr setattr iter next map super property staticmethod classmethod
    Exception ValueError TypeError KeyError IndexError LookupError ZeroDivisionError ArithmeticError OverflowError
    RuntimeError NotImplementedError AttributeError StopIteration NotImplemented
""".split())
WORDS = """
    type typing typing_extensions enum Enum IntEnum StrEnum Flag IntFlag Generic Protocol ABC ABCMeta namedtuple
    NamedTuple TypedDict TYPE_CHECKING abstractmethod register mro elements open input law version_info with_traceback
    add_note Meta _wall _WallAttr global async
""".split()
NODES = (ast.Global, ast.AsyncFunctionDef, ast.Await, ast.Div, ast.AnnAssign)


class Language(unittest.TestCase):
    def setUp(self):
        self.files = {path: path.read_bytes().decode() for path in sorted(FOLDER.rglob("*.py"))}
        self.trees = {path: ast.parse(text) for path, text in self.files.items()}

    def walk(self, *kinds):
        for path, tree in self.trees.items():
            for node in ast.walk(tree):
                if isinstance(node, kinds):
                    yield f"{path.name}:{getattr(node, 'lineno', 0)}", node

    def test_the_folder_holds_python_files_alone(self):
        for path in FOLDER.rglob("*"):
            if "__pycache__" not in path.parts and path.is_file():
                self.assertRegex(path.name, r"^[a-z0-9_]+\.py$")
        self.assertIn(FOLDER / "__init__.py", self.files)

    def test_sizes_and_characters(self):
        for path, text in self.files.items():
            self.assertLessEqual(len(text.splitlines()), 399, path.name)
            self.assertLessEqual(max(len(line) for line in text.splitlines()), 120, path.name)
            self.assertRegex(text, r"\A[ -~\n]*\Z", path.name)
        for place, node in self.walk(ast.FunctionDef):
            self.assertLessEqual(node.end_lineno - node.lineno + 1, 40, place)

    def test_words(self):
        for path, text in self.files.items():
            for word in WORDS:
                self.assertIsNone(re.search(rf"\b{word}\b", text), (path.name, word))
            self.assertIsNone(re.search("dataclass|overload|contextmanager", text), path.name)

    def test_imports_are_of_the_package_by_full_names(self):
        for place, node in self.walk(ast.Import, ast.ImportFrom):
            self.assertIsInstance(node, ast.ImportFrom, place)
            first = node.module.split(".")[0]
            self.assertTrue(node.level == 0 and (first == "roomtold" or node.module in LIBRARY), place)
            self.assertNotIn("*", [name.name for name in node.names], place)

    def test_builtins(self):
        known = set(dir(__import__("builtins")))
        for place, node in self.walk(ast.Name):
            if node.id in known:
                self.assertIn(node.id, BUILTINS, place)
                self.assertIsInstance(node.ctx, ast.Load, place)
        for place, node in self.walk(ast.arg):
            self.assertNotIn(node.arg, known, place)

    def test_nothing_that_the_language_leaves_out(self):
        for place, node in self.walk(*NODES):
            self.fail(place)
        for place, node in self.walk(ast.Constant):
            self.assertNotIsInstance(node.value, (float, complex), place)
            if isinstance(node.value, str):
                self.assertNotIn("%", node.value, place)
        for place, node in self.walk(ast.FunctionDef, ast.ClassDef):
            for mark in node.decorator_list:
                self.assertRegex(ast.unparse(mark), r"^(property|staticmethod|classmethod|\w+\.setter)$", place)

    def functions(self):
        for place, node in self.walk(ast.FunctionDef):
            yield place, node, [part for row in node.body for part in ast.walk(row)]

    def test_no_local_name_of_a_class_or_an_import_of_its_file(self):
        for path, tree in self.trees.items():
            taken = {row.name for row in tree.body if isinstance(row, (ast.ClassDef, ast.FunctionDef))}
            taken |= {name.name for row in tree.body if isinstance(row, ast.ImportFrom) for name in row.names}
            for node in ast.walk(tree):
                if isinstance(node, ast.arg):
                    self.assertNotIn(node.arg, taken, path.name)
                if isinstance(node, ast.Name) and isinstance(node.ctx, ast.Store):
                    self.assertNotIn(node.id, taken, path.name)

    def test_a_generator_has_its_name_alone_and_is_gone_over_at_once(self):
        names = [node.name for _, node, _ in self.functions()]
        generators = [node.name for _, node, parts in self.functions()
                      if any(isinstance(part, (ast.Yield, ast.YieldFrom)) for part in parts)]
        for name in generators:
            self.assertEqual(names.count(name), 1, name)
        over = ["for", "list", "tuple", "dict", "sorted", "sum", "min", "max", "any", "all", "enumerate", "zip"]
        for path, tree in self.trees.items():
            at_once = {id(node.iter) for node in ast.walk(tree) if isinstance(node, (ast.For, ast.comprehension))}
            at_once |= {id(node.value) for node in ast.walk(tree) if isinstance(node, ast.YieldFrom)}
            for node in ast.walk(tree):
                if isinstance(node, ast.Call) and isinstance(node.func, ast.Name) and node.func.id in over:
                    at_once |= {id(given) for given in node.args}
            for node in ast.walk(tree):
                called = getattr(node, "func", None)
                if getattr(called, "id", getattr(called, "attr", "")) in generators:
                    self.assertIn(id(node), at_once, f"{path.name}:{node.lineno}")

    def test_own_errors_alone_are_caught_and_made_where_they_are_raised(self):
        own = {node.name for path, tree in self.trees.items() if path.stem == "errors" for node in tree.body
               if isinstance(node, ast.ClassDef)}
        for place, node in self.walk(ast.ExceptHandler):
            kinds = node.type.elts if isinstance(node.type, ast.Tuple) else [node.type]
            for kind in kinds:
                self.assertIn(kind.id, own, place)
        for place, node in self.walk(ast.Raise):
            self.assertIsInstance(node.exc, ast.Call, place)
            self.assertIn(node.exc.func.id, own | {"TypeError"}, place)
            self.assertTrue(node.cause is None or isinstance(node.cause, ast.Name), place)

    def test_is_stands_beside_none_true_and_false(self):
        for place, node in self.walk(ast.Compare):
            for sign, right in zip(node.ops, node.comparators):
                if isinstance(sign, (ast.Is, ast.IsNot)):
                    self.assertTrue(isinstance(right, ast.Constant) and right.value in (None, True, False), place)

    def test_a_propertys_name_means_nothing_else_in_a_class(self):
        properties, methods = set(), set()
        for _, kind in self.walk(ast.ClassDef):
            for row in kind.body:
                if isinstance(row, ast.FunctionDef):
                    marks = [ast.unparse(mark) for mark in row.decorator_list]
                    (properties if "property" in marks else methods).add((row.name, *marks))
        names = {name for name, _ in properties}
        plain = {row[0] for row in methods if len(row) == 1}
        stored = {node.attr for _, node in self.walk(ast.Attribute) if isinstance(node.ctx, ast.Store)}
        self.assertEqual((names & plain, plain & stored), (set(), set()))
        # The console sets this one by its setter.
        self.assertEqual(names & stored, {"limit"})

    def test_what_leaves_a_context_only_assigns(self):
        for place, node, _ in self.functions():
            if node.name == "__exit__":
                for part in ast.walk(node):
                    self.assertNotIsInstance(part, (ast.Call, ast.BinOp, ast.Subscript, ast.Raise, ast.Return), place)
                tests = [ast.unparse(part.test) for part in ast.walk(node) if isinstance(part, ast.If)]
                self.assertEqual(tests, ["kind is not None"])

    def test_no_two_files_import_from_each_other(self):
        ahead = {}
        for path, tree in self.trees.items():
            ahead[path.stem] = [row.module.split(".")[1] for row in tree.body
                                if isinstance(row, ast.ImportFrom) and row.module.startswith("roomtold.")]
        waiting = set(ahead)
        while waiting:
            free = {name for name in waiting if not waiting & set(ahead[name])}
            self.assertNotEqual(free, set(), waiting)
            waiting -= free


if __name__ == "__main__":
    unittest.main()
