"""The form of the code: those rules of LANGUAGE.md that are quickly looked at."""

import ast
import pathlib
import re
import unittest

PACKAGE = pathlib.Path(__file__).resolve().parent.parent / "rowveil"
BARRED_WORDS = (
    "type typing typing_extensions enum Enum IntEnum StrEnum Flag IntFlag Generic Protocol ABC ABCMeta namedtuple "
    "NamedTuple TypedDict TYPE_CHECKING abstractmethod"
).split()
BARRED_NAMES = (
    "register mro elements open input version_info with_traceback add_note attrgetter breakpoint builtins compile "
    "copyright credits delattr dir eval exec exit gc getattr globals hasattr help id importlib license locals "
    "methodcaller os quit setattr type vars sys hash map filter round iter next"
).split()
METHODS = (
    "append clear copy count endswith extend find get index insert items join keys pop remove replace reverse setdefault "
    "split startswith endswith strip update values"
).split()
BUILTINS = (
    "len range enumerate zip min max sum abs sorted reversed int str bool bytes list tuple dict set frozenset "
    "isinstance ord repr any all divmod super"
).split()


def bound_names(tree):
    """All names that a file gives a meaning."""
    for node in ast.walk(tree):
        if isinstance(node, ast.Name) and isinstance(node.ctx, ast.Store):
            yield node.id
        elif isinstance(node, (ast.FunctionDef, ast.ClassDef)):
            yield node.name
        elif isinstance(node, ast.arg):
            yield node.arg


def called(node):
    """The name of what is called."""
    return node.func.id if isinstance(node.func, ast.Name) else getattr(node.func, "attr", None)


class LanguageTest(unittest.TestCase):
    def setUp(self):
        self.files = {path: path.read_text("ascii") for path in sorted(PACKAGE.glob("*.py"))}
        self.trees = {path: ast.parse(text) for path, text in self.files.items()}

    def test_the_folder_has_sources_only(self):
        others = [path.name for path in PACKAGE.iterdir() if path.suffix != ".py" and path.name != "__pycache__"]
        self.assertEqual(others, [])

    def test_sizes_and_characters(self):
        for path, text in self.files.items():
            lines = text.split("\n")
            self.assertLessEqual(len(lines), 400, path)
            self.assertLessEqual(max(len(line) for line in lines), 120, path)
            self.assertRegex(text, r"\A[ -~\n]*\Z", path)

    def test_functions_are_short(self):
        for path, tree in self.trees.items():
            for node in ast.walk(tree):
                if isinstance(node, ast.FunctionDef):
                    self.assertLessEqual(node.end_lineno - node.lineno + 1, 40, (path, node.name))

    def test_barred_words(self):
        for path, text in self.files.items():
            for word in BARRED_WORDS:
                self.assertIsNone(re.search(rf"\b{word}\b", text), (path, word))
            for word in ["dataclass", "overload", "contextmanager", "%"]:
                self.assertNotIn(word, text, path)

    def test_imports_are_of_the_package(self):
        for path, tree in self.trees.items():
            for node in ast.walk(tree):
                self.assertNotIsInstance(node, ast.Import, path)
                if isinstance(node, ast.ImportFrom):
                    self.assertTrue(node.module.startswith("rowveil."), (path, node.module))
                    defined = set(bound_names(self.trees[PACKAGE / (node.module.split(".")[1] + ".py")]))
                    for alias in node.names:
                        self.assertIn(alias.name, defined, path)

    def test_names(self):
        for path, tree in self.trees.items():
            for name in bound_names(tree):
                plain = not name.startswith("_") or re.fullmatch(r"__[a-z]+__", name)
                self.assertTrue(plain, (path, name))
                self.assertNotIn(name, BARRED_NAMES + BUILTINS, path)

    def test_what_is_not_used(self):
        barred = (
            ast.GeneratorExp, ast.Global, ast.AsyncFunctionDef, ast.Div, ast.Await, ast.Yield, ast.YieldFrom,
        )
        for path, tree in self.trees.items():
            for node in ast.walk(tree):
                self.assertNotIsInstance(node, barred, (path, getattr(node, "lineno", 0)))
                if isinstance(node, ast.Constant):
                    self.assertNotIsInstance(node.value, (float, complex), path)
                if isinstance(node, ast.Compare) and isinstance(node.ops[0], (ast.Is, ast.IsNot)):
                    self.assertIsInstance(node.comparators[0], ast.Constant, (path, node.lineno))

    def test_iterated_at_once(self):
        takers = "list tuple dict sorted sum any all enumerate zip".split()
        for path, tree in self.trees.items():
            at_once = set()
            for node in ast.walk(tree):
                if isinstance(node, (ast.For, ast.comprehension)):
                    at_once.add(node.iter)
                elif isinstance(node, ast.Call) and isinstance(node.func, ast.Name) and node.func.id in takers:
                    at_once.update(node.args)
            for node in ast.walk(tree):
                if isinstance(node, ast.Call) and called(node) in "zip enumerate reversed range items keys values".split():
                    self.assertIn(node, at_once, (path, node.lineno))

    def test_no_name_means_two_things(self):
        for path, tree in self.trees.items():
            outer = [name.name for node in tree.body if isinstance(node, ast.ImportFrom) for name in node.names]
            outer += [node.name for node in tree.body if isinstance(node, (ast.ClassDef, ast.FunctionDef))]
            outer += [node.targets[0].id for node in tree.body if isinstance(node, ast.Assign)]
            self.assertEqual(len(outer), len(set(outer)), path)
            for node in ast.walk(tree):
                if isinstance(node, ast.FunctionDef):
                    inner = {name for part in node.body + [node.args] for name in bound_names(part)}
                    self.assertEqual(inner & set(outer), set(), (path, node.name))

    def test_methods_and_attributes_have_names_apart(self):
        methods, attributes = set(), set()
        for tree in self.trees.values():
            for node in ast.walk(tree):
                if isinstance(node, ast.ClassDef):
                    methods.update(part.name for part in node.body if isinstance(part, ast.FunctionDef))
                elif isinstance(node, ast.Attribute) and isinstance(node.ctx, ast.Store):
                    attributes.add(node.attr)
        self.assertEqual(methods & attributes, set())

    def test_module_level(self):
        allowed = (ast.ImportFrom, ast.FunctionDef, ast.ClassDef, ast.Assign, ast.Expr)
        for path, tree in self.trees.items():
            for node in tree.body:
                self.assertIsInstance(node, allowed, (path, node.lineno))
                if isinstance(node, ast.Expr):
                    self.assertIsInstance(node.value, ast.Constant, (path, node.lineno))
                if isinstance(node, ast.Assign):
                    for part in ast.walk(node.value):
                        self.assertNotIsInstance(part, (ast.Call, ast.Lambda, ast.ListComp), (path, node.lineno))

    def test_no_two_files_import_from_each_other(self):
        ahead = {}
        for path, tree in self.trees.items():
            ahead[path.stem] = [node.module.split(".")[1] for node in tree.body if isinstance(node, ast.ImportFrom)]
        while ahead:
            first = [name for name, others in ahead.items() if not any(other in ahead for other in others)]
            self.assertNotEqual(first, [], ahead)
            for name in first:
                del ahead[name]

    def test_methods_are_called_where_they_stand(self):
        methods, attributes = set(METHODS), set()
        for tree in self.trees.values():
            for node in ast.walk(tree):
                if isinstance(node, ast.ClassDef):
                    methods.update(part.name for part in node.body if isinstance(part, ast.FunctionDef))
                elif isinstance(node, ast.Attribute) and isinstance(node.ctx, ast.Store):
                    attributes.add(node.attr)
        for path, tree in self.trees.items():
            functions = [node.func for node in ast.walk(tree) if isinstance(node, ast.Call)]
            for node in ast.walk(tree):
                if isinstance(node, ast.Attribute) and isinstance(node.ctx, ast.Load):
                    expected = methods if node in functions else attributes
                    self.assertIn(node.attr, expected, (path, node.lineno))

    def test_what_stands_in_a_finally(self):
        for path, tree in self.trees.items():
            for node in ast.walk(tree):
                if isinstance(node, ast.Try):
                    for row in node.finalbody:
                        for part in ast.walk(row):
                            self.assertNotIsInstance(part, (ast.Return, ast.Raise, ast.For, ast.Subscript), (path, row.lineno))
                            if isinstance(part, ast.Call):
                                self.assertIn(called(part), ["append", "clear"], (path, row.lineno))
                    for handler in node.handlers:
                        self.assertIsInstance(handler.type, ast.Name, (path, handler.lineno))


if __name__ == "__main__":
    unittest.main()
