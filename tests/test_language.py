"""The rules of the Python subset that can be read off the code of the package."""

import ast
import re
import unittest
from pathlib import Path

PACKAGE = Path(__file__).resolve().parent.parent / "looptimes"
FILES = sorted(PACKAGE.glob("*.py"))
LIBRARY = {"math": {"gcd", "lcm"}}
BUILTINS = set("""len range enumerate zip min max sum abs sorted reversed int str bool list tuple dict set isinstance
    ord repr any all divmod ValueError TypeError NotImplemented""".split())
METHODS = set("""append bit_length clear copy count endswith extend find get index insert items join keys pop partition
    remove removeprefix removesuffix replace reverse rfind setdefault split startswith strip update values __init__""".split())
DOUBLE = set("""__init__ __eq__ __len__ __iter__ __getitem__ __contains__ __add__ __radd__ __sub__ __rsub__ __mul__
    __rmul__ __floordiv__ __rfloordiv__ __mod__ __rmod__ __neg__ __abs__ __lt__ __le__ __gt__ __ge__""".split())
ALLOWED = set("""Module Expr Constant ImportFrom alias FunctionDef ClassDef arguments arg Assign AugAssign Return If For
    While Break Continue Raise Pass Name Attribute Call keyword Load Store BinOp UnaryOp BoolOp Compare IfExp And Or Not
    Add Sub Mult FloorDiv Mod LShift BitOr USub Eq NotEq Lt LtE Gt GtE Is IsNot In NotIn Tuple List Dict Subscript
    Slice Starred ListComp DictComp comprehension JoinedStr FormattedValue""".split())
BARRED = set("""type typing enum Enum Flag Generic Protocol ABC namedtuple dataclass overload abstractmethod register mro
    elements law version_info eval exec globals locals vars""".split())


def functions(tree):
    return [node for node in ast.walk(tree) if isinstance(node, ast.FunctionDef)]


def imports(tree):
    return [node for node in ast.walk(tree) if isinstance(node, ast.ImportFrom)]


class LanguageTest(unittest.TestCase):
    def each(self):
        for path in FILES:
            text = path.read_text("utf-8")
            yield path.name, text, ast.parse(text)

    def test_files(self):
        found = [path for path in PACKAGE.iterdir() if path.name != "__pycache__"]
        self.assertEqual(sorted(found), FILES)
        self.assertIn(PACKAGE / "__init__.py", FILES)
        for path in FILES:
            self.assertRegex(path.name, r"^([a-z]+|__init__)\.py$")

    def test_lines_and_characters(self):
        for name, text, _ in self.each():
            self.assertLessEqual(text.count("\n"), 399, name)
            for line in text.split("\n"):
                self.assertLessEqual(len(line), 120, name)
                self.assertTrue(all(" " <= sign <= "~" for sign in line), name)
            self.assertFalse(BARRED & set(re.findall(r"\w+", text)), name)

    def test_kinds_of_code(self):
        for name, _, tree in self.each():
            for node in ast.walk(tree):
                self.assertIn(node.__class__.__name__, ALLOWED, (name, getattr(node, "lineno", 0)))
                if isinstance(node, ast.Constant):
                    self.assertIn(node.value.__class__, (int, str, bool, type(None)), name)
                    self.assertNotIn("%", str(node.value), name)
                if isinstance(node, ast.Compare) and isinstance(node.ops[0], (ast.Is, ast.IsNot)):
                    self.assertIsInstance(node.comparators[0], ast.Constant, name)

    def test_attributes_are_assigned_through_local_names(self):
        for name, _, tree in self.each():
            for function in functions(tree):
                local = {node.arg for node in ast.walk(function) if isinstance(node, ast.arg)}
                local |= {node.id for node in ast.walk(function)
                          if isinstance(node, ast.Name) and isinstance(node.ctx, ast.Store)}
                for node in ast.walk(function):
                    if isinstance(node, ast.Attribute) and not isinstance(node.ctx, ast.Load):
                        self.assertIsInstance(node.value, ast.Name, (name, node.lineno))
                        self.assertIn(node.value.id, local, (name, node.lineno))

    def test_functions(self):
        for name, _, tree in self.each():
            for node in functions(tree):
                self.assertLessEqual(node.end_lineno - node.lineno + 1, 40, (name, node.name))
                if node.name.startswith("__"):
                    self.assertIn(node.name, DOUBLE)
                self.assertTrue(all(item.id == "staticmethod" for item in node.decorator_list), node.name)
                inner = [other for other in functions(node) if other is not node]
                self.assertEqual(inner, [], (name, node.name))

    def test_names(self):
        for name, _, tree in self.each():
            top = {item.name for node in imports(tree) for item in node.names}
            top |= {node.name for node in tree.body if isinstance(node, (ast.FunctionDef, ast.ClassDef))}
            for node in ast.walk(tree):
                if isinstance(node, ast.ClassDef):
                    self.assertRegex(node.name, "^[A-Z]", name)
                bound = node.arg if isinstance(node, ast.arg) else None
                if isinstance(node, ast.Name) and isinstance(node.ctx, ast.Store):
                    bound = node.id
                if bound is not None:
                    self.assertNotIn(bound, top, name)
                    self.assertFalse(bound in dir(__builtins__) if not isinstance(__builtins__, dict)
                                     else bound in __builtins__, (name, bound))

    def test_calls(self):
        own = {node.name for _, _, tree in self.each() for node in functions(tree)}
        classes = {node.name for _, _, tree in self.each() for node in ast.walk(tree) if isinstance(node, ast.ClassDef)}
        imported = set().union(*LIBRARY.values())
        for name, _, tree in self.each():
            for node in ast.walk(tree):
                if isinstance(node, ast.Call) and isinstance(node.func, ast.Name):
                    self.assertIn(node.func.id, BUILTINS | own | classes | imported | {"action"}, name)
                if isinstance(node, ast.Call) and isinstance(node.func, ast.Attribute):
                    self.assertIn(node.func.attr, METHODS | own, name)

    def test_imports(self):
        needs = {}
        for name, _, tree in self.each():
            needs[name[:-3]] = set()
            for node in imports(tree):
                self.assertEqual(node.level, 0)
                self.assertTrue(all(item.asname is None for item in node.names))
                if node.module in LIBRARY:
                    self.assertLessEqual({item.name for item in node.names}, LIBRARY[node.module])
                    continue
                package, module = node.module.split(".")
                self.assertEqual(package, "looptimes")
                needs[name[:-3]].add(module)
        while needs:
            free = [name for name, modules in needs.items() if not modules & set(needs)]
            self.assertTrue(free, needs)
            needs = {name: modules for name, modules in needs.items() if name not in free}

    def test_methods_and_attributes_have_different_names(self):
        attributes, methods = set(), set()
        for _, _, tree in self.each():
            for node in ast.walk(tree):
                if isinstance(node, ast.Attribute) and isinstance(node.ctx, ast.Store):
                    attributes.add(node.attr)
                if isinstance(node, ast.ClassDef):
                    methods |= {item.name for item in functions(node)}
        self.assertFalse(attributes & methods)
        self.assertFalse(attributes & {"items", "keys", "values", "pop", "update", "append", "args", "format", "sort"})


if __name__ == "__main__":
    unittest.main()
