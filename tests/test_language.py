"""Those rules of LANGUAGE.md that are easily broken by mistake."""

import ast
import builtins
import pathlib
import re
import unittest

FOLDER = pathlib.Path(__file__).resolve().parent.parent / "cornertold"
FILES = sorted(FOLDER.glob("*.py"))
BARRED_WORDS = (
    "type|typing|typing_extensions|enum|Enum|IntEnum|StrEnum|Flag|IntFlag|Generic|Protocol|ABC|ABCMeta|namedtuple|"
    "NamedTuple|TypedDict|TYPE_CHECKING|abstractmethod")
BARRED_NAMES = (
    "register mro elements open input law version_info with_traceback add_note attrgetter breakpoint builtins compile "
    "copyright credits delattr dir eval exec exit gc getattr globals hasattr help id importlib license locals "
    "methodcaller os quit setattr super type vars sys").split()
BUILTINS = (
    "len range enumerate zip min max sum abs sorted reversed int str bool bytes list tuple dict set frozenset isinstance "
    "ord repr any all divmod ValueError KeyError IndexError LookupError ZeroDivisionError").split()
BARRED_NODES = (ast.Global, ast.AsyncFunctionDef, ast.AsyncFor, ast.AsyncWith, ast.Div, ast.MatMult, ast.Import)
METHODS = (
    "append clear copy count endswith extend find get index insert isdigit items join keys pop remove replace reverse "
    "setdefault split startswith strip update values").split()
CHANGING_METHODS = "append clear extend insert pop remove reverse setdefault update".split()


def bound_names(tree):
    """The names of parameters and of all that is assigned in functions."""
    for node in ast.walk(tree):
        if isinstance(node, ast.arg):
            yield node.arg
        if isinstance(node, ast.Name) and isinstance(node.ctx, ast.Store):
            yield node.id


class Language(unittest.TestCase):
    def each_file(self):
        for path in FILES:
            text = path.read_text(encoding="ascii")
            yield path, text, ast.parse(text)

    def each_node(self):
        for path, text, tree in self.each_file():
            for node in ast.walk(tree):
                yield node, f"{path.name}, line {getattr(node, 'lineno', 0)}"

    def test_files_lines_and_signs(self):
        for path, text, tree in self.each_file():
            self.assertRegex(path.name, r"\A(__init__|[a-z][a-z0-9_]*)\.py\Z")
            self.assertLess(len(text.splitlines()), 400, path.name)
            self.assertLessEqual(max(len(line) for line in text.splitlines()), 120, path.name)
            self.assertIsNone(re.search(r"[^ -~\n]", text), path.name)
            barred = re.search(rf"\b({BARRED_WORDS})\b|dataclass|overload|contextmanager", text)
            self.assertIsNone(barred, path.name)

    def test_functions_are_short(self):
        for node, where in self.each_node():
            if isinstance(node, ast.FunctionDef):
                self.assertLessEqual(node.end_lineno - node.lineno + 1, 40, where)

    def test_imports_are_full_names_of_the_package(self):
        for path, text, tree in self.each_file():
            imports = [node for node in ast.walk(tree) if isinstance(node, ast.ImportFrom)]
            for node in imports:
                self.assertEqual(node.level, 0, path.name)
                self.assertTrue(node.module.startswith("cornertold."), path.name)
                defined = ast.parse((FOLDER / (node.module.split(".")[1] + ".py")).read_text(encoding="ascii")).body
                names = [part.name for part in defined if isinstance(part, (ast.FunctionDef, ast.ClassDef))]
                for alias in node.names:
                    self.assertIn(alias.name, names, path.name)
            imported = [alias.name for node in imports for alias in node.names]
            self.assertEqual(sorted(set(imported)), sorted(imported), path.name)
            self.assertEqual(set(imported) & set(bound_names(tree)), set(), path.name)
            used = {node.id for node in ast.walk(tree) if isinstance(node, ast.Name)}
            self.assertEqual(set(imported) - used, set(), path.name)

    def test_names(self):
        for path, text, tree in self.each_file():
            for name in bound_names(tree):
                self.assertFalse(name.startswith("_"), path.name)
                self.assertNotIn(name, BARRED_NAMES, path.name)
                self.assertFalse(hasattr(builtins, name), f"{path.name}: {name}")

    def own_methods(self):
        return {part.name for node, where in self.each_node() if isinstance(node, ast.ClassDef)
                for part in node.body if isinstance(part, ast.FunctionDef)}

    def test_no_name_is_a_method_and_an_attribute(self):
        attributes = {node.attr for node, where in self.each_node()
                      if isinstance(node, ast.Attribute) and isinstance(node.ctx, ast.Store)}
        self.assertEqual(attributes & (self.own_methods() | set(METHODS) - {"index", "count", "find", "get"}), set())
        self.assertEqual(self.own_methods() & set(METHODS), set())
        nodes = list(self.each_node())
        called = [node.func for node, where in nodes if isinstance(node, ast.Call)]
        for node, where in nodes:
            if isinstance(node, ast.Attribute) and node not in called and isinstance(node.ctx, ast.Load):
                self.assertIn(node.attr, attributes, where)

    def test_lists_alone_beside_a_class_that_compares(self):
        for node, where in self.each_node():
            name = node.func.id if isinstance(node, ast.Call) and isinstance(node.func, ast.Name) else None
            if name in ("any", "all", "sum", "sorted") or name in ("min", "max") and len(node.args) == 1:
                first = node.args[0]
                is_list = isinstance(first, ast.Call) and getattr(first.func, "id", None) == "list"
                self.assertTrue(is_list or isinstance(first, (ast.ListComp, ast.List)), where)
            self.assertFalse(isinstance(node, ast.Attribute) and node.attr == "sort", where)

    def test_finally_and_equality_are_plain(self):
        for node, where in self.each_node():
            if isinstance(node, ast.Try):
                self.assertEqual(node.handlers, [], where)
                for part in node.finalbody:
                    self.assertIsInstance(part, ast.Assign, where)
                    self.assertEqual([inner for inner in ast.walk(part) if isinstance(inner, (ast.Call, ast.List))], [])
            if isinstance(node, ast.FunctionDef) and node.name in ("__eq__", "__len__"):
                self.assertEqual([type(part) for part in node.body], [ast.Return], where)

    def test_lists_and_dicts_of_a_file_are_only_read(self):
        for path, text, tree in self.each_file():
            kept = {target.id for part in tree.body if isinstance(part, ast.Assign) for target in part.targets
                    if isinstance(part.value, (ast.List, ast.Dict))}
            for node in ast.walk(tree):
                if isinstance(node, ast.Subscript) and isinstance(node.ctx, ast.Store):
                    self.assertNotIn(getattr(node.value, "id", None), kept, path.name)
                if isinstance(node, ast.Call):
                    self.assertFalse({getattr(part, "id", None) for part in node.args} & kept, path.name)
                    if isinstance(node.func, ast.Attribute) and node.func.attr in CHANGING_METHODS:
                        self.assertNotIn(getattr(node.func.value, "id", None), kept, path.name)

    def test_builtins_and_methods(self):
        methods = self.own_methods() | set(METHODS)
        for path, text, tree in self.each_file():
            own = {node.name for node in ast.walk(tree) if isinstance(node, (ast.FunctionDef, ast.ClassDef))}
            own |= {alias.name for node in ast.walk(tree) if isinstance(node, ast.ImportFrom) for alias in node.names}
            own |= set(bound_names(tree))
            for node in ast.walk(tree):
                if isinstance(node, ast.Name):
                    self.assertIn(node.id, own | set(BUILTINS), path.name)
                if isinstance(node, ast.Call) and isinstance(node.func, ast.Attribute):
                    self.assertIn(node.func.attr, methods, path.name)

    def test_expressions_and_statements(self):
        for node, where in self.each_node():
            self.assertNotIsInstance(node, BARRED_NODES, where)
            # Beside a class with an __eq__ any, all, sum, sorted take lists alone.
            self.assertNotIsInstance(node, ast.GeneratorExp, where)
            if isinstance(node, ast.Constant):
                self.assertNotIsInstance(node.value, (float, complex), where)
                self.assertNotIn("%", str(node.value), where)
            if isinstance(node, ast.BinOp) and isinstance(node.op, ast.Pow):
                self.assertIsInstance(node.right, ast.Constant, where)
            if isinstance(node, ast.Compare):
                for sign, right in zip(node.ops, node.comparators):
                    if isinstance(sign, (ast.Is, ast.IsNot)):
                        self.assertIsInstance(right, ast.Constant, where)


if __name__ == "__main__":
    unittest.main()
