"""What ../shared/LANGUAGE.md asks of the files of the package, as far as a short look at the code can tell."""

import ast
import builtins
import re
import unittest
from pathlib import Path

FOLDER = Path(__file__).resolve().parent.parent / "surefinds"
FILES = sorted(FOLDER.rglob("*.py"))
LIBRARY = {"math": {"gcd", "lcm"}}
BUILTINS = {"len", "range", "enumerate", "zip", "min", "max", "sum", "abs", "sorted", "int", "list", "tuple", "all",
            "any", "type", "super", "ValueError"}
METHODS = {"append", "get", "items", "values", "bit_length"}
BARRED = (ast.Div, ast.Global, ast.Nonlocal, ast.Yield, ast.YieldFrom, ast.Await, ast.With, ast.JoinedStr,
          ast.GeneratorExp, ast.NamedExpr, ast.Starred, ast.AnnAssign, ast.Import, ast.Delete, ast.Match, ast.Assert)
BARRED_NAMES = re.compile(r"register|mro|elements|open|input|law|_|.*__.*|(_wall|_pe_|_dcw_|_enum_|_cm_|_lay_|_law_).*")


def defined_names(tree):
    names = set()
    for node in tree.body:
        if isinstance(node, (ast.FunctionDef, ast.ClassDef)):
            names.add(node.name)
        elif isinstance(node, ast.Assign):
            names |= {target.id for target in node.targets}
    return names


def own_names():
    names = set()
    for path in FILES:
        for node in ast.walk(ast.parse(path.read_text())):
            if isinstance(node, (ast.FunctionDef, ast.ClassDef)):
                names.add(node.name)
            elif isinstance(node, ast.arg):
                names.add(node.arg)
    return names


def names_for_functions_of_tables(tree):
    return {node.targets[0].id for node in ast.walk(tree)
            if isinstance(node, ast.Assign) and isinstance(node.value, ast.Subscript)
            and isinstance(node.value.value, ast.Name) and node.value.value.id.isupper()}


class Language(unittest.TestCase):

    def trees(self):
        for path in FILES:
            yield path, ast.parse(path.read_text())

    def test_only_plain_python_files(self):
        for path in FOLDER.rglob("*"):
            if "__pycache__" not in path.parts and path.is_file():
                self.assertRegex(path.name, r"^(__init__|[a-z][a-z_]*)\.py$")

    def test_sizes_and_characters(self):
        for path in FILES:
            text = path.read_text()
            self.assertLess(len(text.splitlines()), 400, path.name)
            self.assertIsNone(re.search(r"[^\n -~]", text), path.name)
            self.assertLessEqual(max(map(len, text.splitlines())), 120, path.name)

    def test_functions_of_at_most_40_lines_without_decorators(self):
        for path, tree in self.trees():
            for node in ast.walk(tree):
                if isinstance(node, ast.FunctionDef):
                    self.assertLessEqual(node.end_lineno - node.lineno + 1, 40, f"{path.name} {node.name}")
                    self.assertEqual(node.decorator_list, [])

    def test_imports(self):
        for path, tree in self.trees():
            for node in ast.walk(tree):
                if isinstance(node, ast.ImportFrom):
                    names = {alias.name for alias in node.names}
                    if node.module in LIBRARY:
                        self.assertLessEqual(names, LIBRARY[node.module], path.name)
                    else:
                        self.assertTrue(node.module.startswith("surefinds."), path.name)
                        other = FOLDER / (node.module.split(".")[1] + ".py")
                        self.assertLessEqual(names, defined_names(ast.parse(other.read_text())), path.name)

    def test_no_two_files_import_from_each_other(self):
        ahead = {}
        for path, tree in self.trees():
            ahead[path.stem] = {node.module.split(".")[1] for node in ast.walk(tree)
                                if isinstance(node, ast.ImportFrom) and node.module not in LIBRARY}
        while ahead:
            free = [name for name, others in ahead.items() if not others & set(ahead)]
            self.assertTrue(free, ahead)
            for name in free:
                del ahead[name]

    def test_no_variable_is_called_like_an_import_a_class_or_a_builtin(self):
        for path, tree in self.trees():
            taken = {name for name in dir(builtins) if name[0] != "_"}
            taken |= {node.name for node in tree.body if isinstance(node, ast.ClassDef)}
            for node in tree.body:
                if isinstance(node, ast.ImportFrom):
                    taken |= {alias.name for alias in node.names}
            for node in ast.walk(tree):
                if isinstance(node, ast.arg):
                    self.assertNotIn(node.arg, taken, path.name)
                elif isinstance(node, ast.Name) and isinstance(node.ctx, ast.Store):
                    self.assertNotIn(node.id, taken, path.name)

    def test_nothing_barred_and_no_floats(self):
        for path, tree in self.trees():
            for node in ast.walk(tree):
                self.assertNotIsInstance(node, BARRED, f"{path.name} {getattr(node, 'lineno', 0)}")
                if isinstance(node, ast.Constant):
                    self.assertNotIsInstance(node.value, (float, complex), path.name)
                    self.assertNotIn("%", str(node.value), path.name)

    def test_only_what_is_let_is_called(self):
        for path, tree in self.trees():
            own = own_names() | names_for_functions_of_tables(tree)
            for node in ast.walk(tree):
                if isinstance(node, ast.Call) and isinstance(node.func, ast.Name):
                    self.assertIn(node.func.id, own | BUILTINS | LIBRARY["math"], path.name)
                elif isinstance(node, ast.Call) and isinstance(node.func, ast.Attribute):
                    self.assertIn(node.func.attr, own | METHODS | {"__init__"}, path.name)

    def test_only_the_own_base_of_errors_is_caught(self):
        for path, tree in self.trees():
            for node in ast.walk(tree):
                if isinstance(node, ast.Try):
                    self.assertEqual([handler.type.id for handler in node.handlers], ["FindError"], path.name)
                    self.assertEqual([len(node.body), node.orelse, node.finalbody], [1, [], []], path.name)
                elif isinstance(node, ast.Raise):
                    self.assertIsInstance(node.exc, ast.Call, path.name)

    def test_names(self):
        for path, tree in self.trees():
            for node in ast.walk(tree):
                if isinstance(node, (ast.FunctionDef, ast.ClassDef)) and node.name != "__init__":
                    self.assertNotRegex(node.name, rf"^({BARRED_NAMES.pattern})$", path.name)
                elif isinstance(node, ast.Name) and isinstance(node.ctx, ast.Load):
                    self.assertNotRegex(node.id, rf"^({BARRED_NAMES.pattern})$", path.name)

    def test_functions_of_a_table_are_named_before_they_are_called(self):
        for path, tree in self.trees():
            for node in ast.walk(tree):
                if isinstance(node, ast.Call):
                    self.assertIsInstance(node.func, (ast.Name, ast.Attribute), f"{path.name} {node.lineno}")

    def test_tables_hold_plain_values_and_functions_defined_above(self):
        for path, tree in self.trees():
            above = set()
            for node in tree.body:
                if isinstance(node, ast.FunctionDef):
                    above.add(node.name)
                elif isinstance(node, ast.Assign):
                    for each in ast.walk(node.value):
                        self.assertIsInstance(each, (ast.Constant, ast.Dict, ast.Tuple, ast.Name, ast.Load, ast.UnaryOp,
                                                     ast.USub), path.name)
                        if isinstance(each, ast.Name):
                            self.assertIn(each.id, above, path.name)
                else:
                    self.assertIsInstance(node, (ast.ImportFrom, ast.ClassDef, ast.Expr), path.name)

    def test_a_kind_is_asked_only_by_is(self):
        for path in FILES:
            for line in path.read_text().splitlines():
                for found in re.findall(r"\btype\(\w+\)(.{0,20})", line):
                    self.assertRegex(found, r"^ is (not )?(int|str|tuple)\b", f"{path.name}: {line}")
