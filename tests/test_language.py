"""Those rules of LANGUAGE.md that can be seen line by line and name by name."""

import ast
import builtins
import os
import re
import unittest

PACKAGE = os.path.join(os.path.dirname(os.path.dirname(os.path.abspath(__file__))), "slimbody")
BUILTINS = (
    "len range enumerate zip min max sum abs sorted reversed int str bool bytes list tuple dict set frozenset "
    "isinstance ord repr any all divmod super property staticmethod classmethod Exception ValueError TypeError "
    "KeyError IndexError LookupError ZeroDivisionError ArithmeticError OverflowError RuntimeError "
    "NotImplementedError AttributeError StopIteration"
).split()
DUNDERS = ["__init__", "__eq__", "__repr__", "__str__", "__len__", "__enter__", "__exit__"]
WORDS = (
    "type typing typing_extensions enum Enum IntEnum StrEnum Flag IntFlag Generic Protocol ABC ABCMeta namedtuple "
    "NamedTuple TypedDict TYPE_CHECKING abstractmethod"
).split()
NAMES = "register mro elements open input version_info with_traceback add_note format format_map".split()
BARRED = (ast.Global, ast.AsyncFunctionDef, ast.AsyncFor, ast.AsyncWith, ast.Await, ast.NamedExpr, ast.Import, ast.Div)


def sources():
    """The name, the text and the tree of each file of the package."""
    told = []
    for name in sorted(os.listdir(PACKAGE)):
        if name.endswith(".py"):
            with open(os.path.join(PACKAGE, name), encoding="utf-8") as source:
                text = source.read()
            told.append((name, text, ast.parse(text)))
    return told


def names_in(node):
    """The names that a node uses or gives."""
    for key in ("id", "name", "attr", "arg"):
        value = getattr(node, key, None)
        if isinstance(value, str):
            yield value


def each_node():
    """Where each node of the package stands, and the node."""
    for name, _, tree in sources():
        for node in ast.walk(tree):
            yield f"{name}:{getattr(node, 'lineno', 0)}", node


class LanguageTest(unittest.TestCase):
    def test_files(self):
        for name in os.listdir(PACKAGE):
            if name != "__pycache__":
                self.assertRegex(name, r"^[a-z0-9_]+\.py$")
        self.assertTrue(os.path.isfile(os.path.join(PACKAGE, "__init__.py")))

    def test_sizes(self):
        for name, text, tree in sources():
            lines = text.split("\n")
            self.assertLessEqual(len(lines), 400, name)
            self.assertLessEqual(max(len(line) for line in lines), 120, name)
            for node in ast.walk(tree):
                if isinstance(node, ast.FunctionDef):
                    self.assertLessEqual(node.end_lineno - node.lineno + 1, 40, (name, node.name))

    def test_characters_and_words(self):
        for name, text, _ in sources():
            self.assertRegex(text, r"^[ -~\n]*$", name)
            for word in re.findall(r"[A-Za-z0-9_]+", text):
                self.assertNotIn(word, WORDS, name)
                self.assertNotRegex(word, "dataclass|overload|contextmanager", name)

    def test_imports(self):
        for where, node in each_node():
            if isinstance(node, ast.ImportFrom):
                self.assertEqual(node.level, 0, where)
                self.assertTrue(node.module.startswith("slimbody."), where)
                self.assertNotIn("*", [alias.name for alias in node.names], where)

    def test_imports_name_the_file_that_defines(self):
        defined = {name[:-3]: [node.name for node in tree.body if isinstance(node, (ast.FunctionDef, ast.ClassDef))] + [
            target.id for node in tree.body if isinstance(node, ast.Assign) for target in node.targets]
            for name, _, tree in sources()}
        for where, node in each_node():
            if isinstance(node, ast.ImportFrom):
                for alias in node.names:
                    self.assertIn(alias.name, defined[node.module.partition(".")[2]], where)

    def test_no_files_import_from_each_other(self):
        needs = {name[:-3]: {node.module.partition(".")[2] for node in tree.body if isinstance(node, ast.ImportFrom)}
                 for name, _, tree in sources()}
        while needs:
            free = [name for name in needs if not needs[name] & set(needs)]
            self.assertNotEqual(free, [], needs)
            for name in free:
                del needs[name]

    def test_super_stands_in_methods_and_calls_one(self):
        for name, text, _ in sources():
            for line in text.split("\n"):
                if "super" in line:
                    self.assertRegex(line, r"^ {8}(return )?super\(\)\.[a-z_]+\(", name)

    def test_statements_and_values(self):
        for where, node in each_node():
            self.assertNotIsInstance(node, BARRED, where)
            if isinstance(node, ast.Constant):
                self.assertNotIsInstance(node.value, (float, complex), where)
                if isinstance(node.value, str):
                    self.assertNotIn(chr(37), node.value, where)

    def test_names(self):
        for where, node in each_node():
            for name in names_in(node):
                self.assertNotIn(name, NAMES, where)
                if name not in DUNDERS:
                    self.assertRegex(name, "^[A-Za-z]", where)

    def test_builtins(self):
        for where, node in each_node():
            if isinstance(node, ast.Name) and hasattr(builtins, node.id):
                self.assertIn(node.id, BUILTINS, where)
                self.assertIsInstance(node.ctx, ast.Load, where)
            if isinstance(node, ast.arg):
                self.assertFalse(hasattr(builtins, node.arg), where)

    def test_no_local_name_is_an_import_or_a_class(self):
        for name, _, tree in sources():
            taken = {alias.name for node in tree.body if isinstance(node, ast.ImportFrom) for alias in node.names}
            taken |= {node.name for node in tree.body if isinstance(node, ast.ClassDef)}
            for node in ast.walk(tree):
                if isinstance(node, ast.Name) and isinstance(node.ctx, ast.Store):
                    self.assertNotIn(node.id, taken, (name, node.lineno))
                if isinstance(node, (ast.arg, ast.MatchAs)):
                    self.assertNotIn(getattr(node, "arg", getattr(node, "name", None)), taken, (name, node.lineno))

    def test_no_name_is_both_method_and_attribute(self):
        methods, attributes = set(), set()
        for _, node in each_node():
            if isinstance(node, ast.ClassDef):
                methods.update(item.name for item in node.body if isinstance(item, ast.FunctionDef))
            if isinstance(node, ast.Attribute) and isinstance(node.ctx, ast.Store):
                attributes.add(node.attr)
        self.assertEqual(methods & attributes, set())


if __name__ == "__main__":
    unittest.main()
