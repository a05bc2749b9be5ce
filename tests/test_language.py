"""A few rules of the language that a plain look can check."""

import ast
import builtins
import unittest
from pathlib import Path

PACKAGE = Path(__file__).resolve().parent.parent / "termstream"
OUTSIDE = {"math": {"gcd", "lcm", "isqrt", "comb", "perm", "factorial"}}
TAKE_LISTS = ("any", "all", "sum", "min", "max", "sorted")
BUILTINS = set(
    "len range enumerate zip min max sum abs sorted reversed int str bool list tuple dict set isinstance ord repr any all"
    " divmod ValueError KeyError LookupError NotImplementedError".split())
# Of the methods of builtin values those that the package may call.
METHODS = set(
    "append clear copy count endswith extend find get index insert items join keys partition pop remove replace reverse"
    " rfind split startswith strip update values removeprefix removesuffix".split())
SPECIAL = {"__init__", "__eq__", "__repr__", "__str__", "__len__"}


def files():
    return sorted(PACKAGE.glob("*.py"))


def nodes(*kinds):
    for file in files():
        for node in ast.walk(ast.parse(file.read_text())):
            if isinstance(node, kinds):
                yield file.name, node


class Language(unittest.TestCase):
    def test_the_folder_holds_nothing_else(self):
        others = [file.name for file in PACKAGE.iterdir() if file.suffix != ".py"]
        self.assertEqual([name for name in others if name != "__pycache__"], [])

    def test_signs_and_sizes(self):
        for file in files():
            text = file.read_text()
            self.assertTrue(all(sign == "\n" or " " <= sign <= "~" for sign in text), file.name)
            lines = text.splitlines()
            self.assertLessEqual(len(lines), 399, file.name)
            self.assertLessEqual(max(len(line) for line in lines), 120, file.name)

    def test_functions_are_small(self):
        for name, node in nodes(ast.FunctionDef):
            self.assertLessEqual(node.end_lineno - node.lineno + 1, 40, (name, node.name))
            self.assertEqual(node.decorator_list, [], (name, node.name))

    def test_imports(self):
        self.assertEqual(list(nodes(ast.Import)), [])
        for name, node in nodes(ast.ImportFrom):
            self.assertEqual(node.level, 0)
            for part in node.names:
                self.assertIsNone(part.asname)
                if node.module in OUTSIDE:
                    self.assertIn(part.name, OUTSIDE[node.module])
                    continue
                self.assertTrue(node.module.startswith("termstream."), name)
                tree = ast.parse((PACKAGE / (node.module.partition(".")[2] + ".py")).read_text())
                defined = [line.name for line in tree.body if isinstance(line, (ast.FunctionDef, ast.ClassDef))]
                defined += [line.targets[0].id for line in tree.body if isinstance(line, ast.Assign)]
                self.assertIn(part.name, defined)

    def test_no_floats_no_slash_no_percent_sign(self):
        for name, node in nodes(ast.Constant):
            self.assertNotIsInstance(node.value, (float, complex), name)
            if isinstance(node.value, str):
                self.assertNotIn("%", node.value, name)
        self.assertEqual(list(nodes(ast.Div)), [])

    def test_lists_are_handed_in_where_a_class_may_compare(self):
        for name, node in nodes(ast.Call):
            if isinstance(node.func, ast.Name) and node.func.id in TAKE_LISTS:
                self.assertFalse(any(isinstance(part, ast.GeneratorExp) for part in node.args), name)

    def test_no_local_name_hides_an_import_or_a_function(self):
        for file in files():
            tree = ast.parse(file.read_text())
            top = {part.name for line in tree.body if isinstance(line, ast.ImportFrom) for part in line.names}
            top |= {line.name for line in tree.body if isinstance(line, (ast.FunctionDef, ast.ClassDef))}
            for node in ast.walk(tree):
                if isinstance(node, ast.arg):
                    self.assertNotIn(node.arg, top, file.name)
                if isinstance(node, ast.Name) and isinstance(node.ctx, ast.Store):
                    self.assertNotIn(node.id, top, file.name)

    def test_only_builtins_and_methods_that_are_allowed(self):
        own = {node.name for _, node in nodes(ast.FunctionDef)}
        for name, node in nodes(ast.Name):
            if isinstance(node.ctx, ast.Load) and hasattr(builtins, node.id):
                self.assertIn(node.id, BUILTINS, name)
            if isinstance(node.ctx, ast.Store):
                self.assertFalse(hasattr(builtins, node.id), (name, node.id))
        for name, node in nodes(ast.Call):
            if isinstance(node.func, ast.Attribute):
                self.assertTrue(node.func.attr in own or node.func.attr in METHODS, (name, node.func.attr))

    def test_no_method_is_an_attribute_or_one_of_a_builtin_value(self):
        methods = set()
        for name, node in nodes(ast.ClassDef):
            methods |= {part.name for part in node.body if isinstance(part, ast.FunctionDef)}
        stored = {node.attr for _, node in nodes(ast.Attribute) if isinstance(node.ctx, ast.Store)}
        self.assertEqual(methods & stored, set())
        taken = {name for kind in (str, int, list, dict, set, bytes, tuple) for name in dir(kind)}
        self.assertEqual((methods - SPECIAL) & taken, set())
        self.assertEqual({name for name in methods if name.startswith("__")} - SPECIAL, set())

    def test_is_stands_beside_none_and_exponents_are_literals(self):
        for name, node in nodes(ast.Compare):
            for sign, other in zip(node.ops, node.comparators):
                if isinstance(sign, (ast.Is, ast.IsNot)):
                    self.assertIsInstance(other, ast.Constant, name)
        for name, node in nodes(ast.BinOp):
            if isinstance(node.op, ast.Pow):
                self.assertTrue(isinstance(node.right, ast.Constant) and 0 <= node.right.value <= 64, name)

    def test_statements_that_are_not_needed(self):
        kinds = (ast.Try, ast.With, ast.Lambda, ast.GeneratorExp, ast.Yield, ast.Global, ast.Nonlocal, ast.NamedExpr)
        self.assertEqual([(name, node.lineno) for name, node in nodes(*kinds)], [])

    def test_no_two_files_import_from_each_other(self):
        stands_on = {}
        for file in files():
            tree = ast.parse(file.read_text())
            modules = [line.module for line in tree.body if isinstance(line, ast.ImportFrom)]
            stands_on[file.stem] = {part.partition(".")[2] for part in modules if part.startswith("termstream.")}
        while stands_on:
            free = [name for name, others in stands_on.items() if not others & set(stands_on)]
            self.assertTrue(free, stands_on)
            for name in free:
                del stands_on[name]
