"""The limits of form that every file of the package keeps.

The language allows more: what the package does not use is not allowed here.
"""

import ast
import builtins
import os
import re
import unittest

import callsthrough

FOLDER = os.path.dirname(os.path.abspath(callsthrough.__file__))
LIBRARY = {"math": {"gcd"}}
BUILTINS = set("""
    len range enumerate zip min max sum abs sorted reversed int str bool list tuple dict set isinstance repr any all
    super classmethod staticmethod property divmod ValueError NotImplemented
""".split())
METHODS = set("""
    append clear copy count endswith extend find get index insert isdigit items join keys partition pop remove replace
    reverse rfind rpartition setdefault split startswith strip update values add discard isascii
""".split())
NO_NAMES = set("""
    register mro elements open input law version_info with_traceback add_note attrgetter breakpoint builtins compile
    copyright credits delattr dir eval exec exit gc getattr globals hasattr help id importlib license locals
    methodcaller os quit setattr type vars sys
""".split())
NO_WORDS = re.compile(r"""\b(type|typing|typing_extensions|enum|Enum|IntEnum|StrEnum|Flag|IntFlag|Generic|Protocol|ABC
    |ABCMeta|namedtuple|NamedTuple|TypedDict|TYPE_CHECKING|abstractmethod|_wall\w*|_WallAttr)\b
    |dataclass|overload|contextmanager""", re.VERBOSE)
NODES = (
    ast.Global, ast.AsyncFunctionDef, ast.Await, ast.AsyncFor, ast.AsyncWith, ast.GeneratorExp, ast.Div, ast.MatMult,
    ast.NamedExpr, ast.Try, ast.With, ast.Match, ast.Nonlocal, ast.AnnAssign, ast.Import, ast.Set, ast.SetComp,
)


def sources():
    found = {}
    for name in sorted(os.listdir(FOLDER)):
        if name.endswith(".py"):
            with open(os.path.join(FOLDER, name), encoding="utf-8", newline="") as file:
                found[name] = file.read()
    return found


TREES = {name: ast.parse(text) for name, text in sources().items()}


def nodes(*kinds):
    return [(name, node) for name, tree in TREES.items() for node in ast.walk(tree) if isinstance(node, kinds)]


def imported(tree):
    return {alias.name: node.module for node in tree.body if isinstance(node, ast.ImportFrom) for alias in node.names}


def defined(tree):
    found = [node.name for node in tree.body if isinstance(node, (ast.FunctionDef, ast.ClassDef))]
    return found + [target.id for node in tree.body if isinstance(node, ast.Assign) for target in node.targets]


def module_of(name):
    return "callsthrough." + name[:-len(".py")]


def own_methods():
    classes = [node for _, node in nodes(ast.ClassDef)]
    return {part.name for node in classes for part in node.body if isinstance(part, ast.FunctionDef)}


class FilesTest(unittest.TestCase):

    def test_the_folder_holds_only_files_of_python(self):
        # Python itself may leave its cache there.
        others = [name for name in os.listdir(FOLDER) if not name.endswith(".py") and name != "__pycache__"]
        self.assertEqual(others, [])
        self.assertIn("__init__.py", sources())

    def test_lengths(self):
        for name, text in sources().items():
            self.assertLessEqual(len(text.splitlines()), 399, name)
            for row in text.splitlines():
                self.assertLessEqual(len(row), 120, (name, row))
        for name, node in nodes(ast.FunctionDef):
            self.assertLessEqual(node.end_lineno - node.lineno + 1, 40, (name, node.name))

    def test_characters_and_words(self):
        for name, text in sources().items():
            self.assertEqual({sign for sign in text if sign != "\n" and not " " <= sign <= "~"}, set(), name)
            self.assertIsNone(NO_WORDS.search(text), name)
        for name, node in nodes(ast.Constant):
            self.assertNotIsInstance(node.value, (float, complex, bytes), name)
            self.assertNotIn("%", str(node.value), name)


class ImportsTest(unittest.TestCase):

    def test_imports_name_the_package_or_the_library(self):
        for name, node in nodes(ast.ImportFrom):
            self.assertIn(node, TREES[name].body, name)
            self.assertEqual([alias.asname for alias in node.names if alias.asname], [], name)
            if node.module in LIBRARY:
                self.assertLessEqual({alias.name for alias in node.names}, LIBRARY[node.module], name)
            else:
                self.assertRegex(node.module, r"^callsthrough\.[a-z]+$")
            self.assertEqual(node.level, 0, name)

    def test_imports_name_the_file_that_defines(self):
        for name, tree in TREES.items():
            for word, module in imported(tree).items():
                if module not in LIBRARY:
                    self.assertIn(word, defined(TREES[module.partition(".")[2] + ".py"]), (name, word))

    def test_every_import_is_used(self):
        for name, tree in TREES.items():
            used = {node.id for node in ast.walk(tree) if isinstance(node, ast.Name)}
            self.assertEqual(set(imported(tree)) - used, set(), name)

    def test_no_two_files_import_from_each_other(self):
        modules = set(map(module_of, TREES))
        needs = {module_of(name): set(imported(tree).values()) & modules for name, tree in TREES.items()}
        while needs:
            done = [module for module in needs if not needs[module] & set(needs)]
            self.assertTrue(done, needs)
            for module in done:
                del needs[module]


class LanguageTest(unittest.TestCase):

    def test_no_statement_or_expression_that_is_not_used_here(self):
        for name, node in nodes(*NODES):
            self.fail((name, node.lineno, node.__class__.__name__))

    def test_module_level(self):
        for name, tree in TREES.items():
            self.assertTrue(ast.get_docstring(tree), name)
            names = defined(tree) + list(imported(tree))
            self.assertEqual(len(names), len(set(names)), name)
            for node in tree.body[1:]:
                self.assertIsInstance(node, (ast.ImportFrom, ast.FunctionDef, ast.ClassDef, ast.Assign), name)
                if isinstance(node, ast.Assign):
                    self.assertIsInstance(node.value, ast.Constant, (name, node.lineno))

    def test_builtins(self):
        for name, node in nodes(ast.Name):
            if node.id in vars(builtins):
                self.assertIn(node.id, BUILTINS, (name, node.lineno))
                self.assertIsInstance(node.ctx, ast.Load, (name, node.lineno))
        for name, node in nodes(ast.arg):
            self.assertFalse(node.arg in vars(builtins), (name, node.lineno))

    def test_names(self):
        for name, tree in TREES.items():
            fixed = set(imported(tree)) | {node.name for node in tree.body if isinstance(node, ast.ClassDef)}
            for node in ast.walk(tree):
                if isinstance(node, ast.Name) and isinstance(node.ctx, ast.Store) or isinstance(node, ast.arg):
                    word = node.id if isinstance(node, ast.Name) else node.arg
                    self.assertNotIn(word, fixed | NO_NAMES, (name, node.lineno))
                if isinstance(node, (ast.FunctionDef, ast.ClassDef)):
                    self.assertNotIn(node.name, set(imported(tree)) | NO_NAMES, (name, node.lineno))
                    self.assertFalse(node.name in vars(builtins), (name, node.lineno))
                if isinstance(node, ast.Name) and node.id == "_":
                    self.assertIsInstance(node.ctx, ast.Store, (name, node.lineno))

    def test_methods(self):
        for name, node in nodes(ast.Call):
            if isinstance(node.func, ast.Attribute):
                self.assertIn(node.func.attr, METHODS | own_methods(), (name, node.lineno))
            if isinstance(node.func, ast.Name) and node.func.id == "set":
                self.assertIn(node, self.sets_on_the_spot(TREES[name]), (name, node.lineno))

    def sets_on_the_spot(self, tree):
        calls = [node for node in ast.walk(tree) if isinstance(node, ast.Call) and isinstance(node.func, ast.Name)]
        return [node.args[0] for node in calls if node.func.id in ("sorted", "len") and len(node.args) == 1]

    def test_methods_and_attributes_differ(self):
        stored = {node.attr for _, node in nodes(ast.Attribute) if isinstance(node.ctx, ast.Store)}
        self.assertEqual(stored & own_methods(), set())
        self.assertEqual(stored & (METHODS - {"count", "index", "find", "get", "copy", "add"}), set())

    def test_decorators(self):
        for name, node in nodes(ast.FunctionDef, ast.ClassDef):
            for decorator in node.decorator_list:
                self.assertIn(ast.unparse(decorator), ("classmethod", "staticmethod", "property"), (name, node.name))

    def test_is_stands_before_none_and_flags(self):
        for name, node in nodes(ast.Compare):
            for sign, right in zip(node.ops, node.comparators):
                if isinstance(sign, (ast.Is, ast.IsNot)):
                    self.assertIsInstance(right, ast.Constant, (name, node.lineno))
                    self.assertIn(right.value, (None, True, False), (name, node.lineno))

    def test_views_and_rows_are_iterated_at_once(self):
        for name, node in nodes(ast.Assign, ast.Return):
            if isinstance(node.value, ast.Call):
                called = ast.unparse(node.value.func).rpartition(".")[2]
                self.assertNotIn(called, "zip enumerate range reversed items values".split(), (name, node.lineno))

    def test_generators(self):
        # A generator's name has no other meaning, and the package itself does not call it.
        functions = [(name, node) for name, node in nodes(ast.FunctionDef)]
        yielding = {
            node.name for _, node in functions
            if [part for part in ast.walk(node) if isinstance(part, (ast.Yield, ast.YieldFrom))]
        }
        self.assertEqual(yielding, {"watch"})
        self.assertEqual(len([node for _, node in functions if node.name in yielding]), 1)
        for name, node in nodes(ast.Attribute, ast.Name):
            word = node.attr if isinstance(node, ast.Attribute) else node.id
            self.assertNotIn(word, yielding, (name, node.lineno))
        for name, node in nodes(ast.Yield):
            self.assertIn(node, [part.value for _, part in nodes(ast.Expr)], (name, node.lineno))

    def test_stars_stand_before_names(self):
        for name, node in nodes(ast.Starred):
            self.assertIsInstance(node.value, (ast.Name, ast.Attribute), (name, node.lineno))

    def test_properties_are_not_called_and_not_assigned(self):
        read = {
            node.name for _, node in nodes(ast.FunctionDef)
            if [mark for mark in node.decorator_list if ast.unparse(mark) == "property"]
        }
        self.assertEqual(read, {"let", "barred", "moved", "rule"})
        for name, node in nodes(ast.Call):
            if isinstance(node.func, ast.Attribute):
                self.assertNotIn(node.func.attr, read, (name, node.lineno))
        for name, node in nodes(ast.Attribute):
            if isinstance(node.ctx, ast.Store):
                self.assertNotIn(node.attr, read, (name, node.lineno))

    def test_lambdas_on_one_line_have_other_parameters(self):
        seen = {}
        for name, node in nodes(ast.Lambda):
            words = tuple(part.arg for part in node.args.args)
            self.assertNotIn((name, node.lineno, words), seen)
            seen[(name, node.lineno, words)] = True

    def test_errors_are_made_where_they_are_raised(self):
        for name, node in nodes(ast.Raise):
            self.assertIsInstance(node.exc, ast.Call, (name, node.lineno))
            self.assertIsInstance(node.exc.func, ast.Name, (name, node.lineno))

    def test_no_class_is_passed_on(self):
        classes = {node.name for _, node in nodes(ast.ClassDef)}
        for name, node in nodes(ast.Call):
            if ast.unparse(node.func) != "isinstance":
                passed = [part.id for part in node.args if isinstance(part, ast.Name)]
                self.assertEqual(classes & set(passed), set(), (name, node.lineno))


if __name__ == "__main__":
    unittest.main()
