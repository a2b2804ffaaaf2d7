"""That the package keeps to the subset of Python that it is written in, so far as a test can see it."""

import ast
import builtins
import os
import unittest

PACKAGE = os.path.join(os.path.dirname(os.path.dirname(os.path.abspath(__file__))), "thingwires")

STATEMENTS = (
    ast.Assign, ast.AugAssign, ast.If, ast.While, ast.For, ast.Return, ast.Break, ast.Continue, ast.Pass, ast.Raise,
    ast.Assert, ast.Delete, ast.Nonlocal, ast.Try, ast.Expr, ast.FunctionDef, ast.ClassDef, ast.ImportFrom,
)
BUILTINS = {
    "len", "range", "enumerate", "zip", "min", "max", "sum", "abs", "sorted", "reversed", "int", "str", "bool", "list",
    "tuple", "dict", "set", "isinstance", "ord", "repr", "any", "all", "divmod", "ValueError", "KeyError",
    "ZeroDivisionError", "NotImplementedError",
}
METHODS = {
    "append", "clear", "copy", "count", "endswith", "extend", "find", "get", "index", "insert", "isalnum", "isalpha",
    "isdigit", "islower", "isspace", "isupper", "items", "join", "keys", "ljust", "lower", "lstrip", "partition", "pop",
    "remove", "replace", "reverse", "rfind", "rjust", "rpartition", "rsplit", "rstrip", "setdefault", "split",
    "splitlines", "startswith", "strip", "update", "upper", "values", "zfill", "bit_length", "isascii", "add", "discard",
}
DUNDERS = {"__init__", "__eq__", "__repr__", "__str__", "__len__"}
BARRED = {
    "type", "typing", "enum", "Enum", "namedtuple", "dataclass", "register", "mro", "elements", "open", "input", "law",
    "eval", "exec", "compile", "globals", "locals", "vars", "dir", "id", "hash", "help", "os", "super", "format",
}


def files():
    """The package's files by their names, as text."""
    texts = {}
    for folder, _, names in os.walk(PACKAGE):
        for name in names:
            if not name.endswith(".pyc"):
                with open(os.path.join(folder, name), encoding="utf-8") as file:
                    texts[name] = file.read()
    return texts


class TestLanguage(unittest.TestCase):
    def setUp(self):
        self.texts = files()
        self.trees = {name: ast.parse(text) for name, text in self.texts.items()}

    def nodes(self, *sorts):
        for name, tree in self.trees.items():
            for node in ast.walk(tree):
                if isinstance(node, sorts):
                    yield f"{name}:{getattr(node, 'lineno', 0)}", node

    def test_files(self):
        self.assertIn("__init__.py", self.texts)
        for name, text in self.texts.items():
            self.assertRegex(name, r"\A(__init__|[a-z_]+)\.py\Z")
            self.assertLessEqual(len(text.split("\n")), 400, name)
            self.assertTrue(all(sign == "\n" or " " <= sign <= "~" for sign in text), name)
            for row in text.split("\n"):
                self.assertLessEqual(len(row), 120, row)

    def test_functions_are_short(self):
        for place, node in self.nodes(ast.FunctionDef):
            self.assertLessEqual(node.end_lineno - node.lineno + 1, 40, place)
            self.assertEqual(node.decorator_list, [], place)

    def test_imports(self):
        for place, node in self.nodes(ast.Import, ast.ImportFrom):
            self.assertIsInstance(node, ast.ImportFrom, place)
            self.assertTrue(node.module.startswith("thingwires."), place)
            self.assertEqual(node.level, 0, place)
            source = self.trees[node.module.partition(".")[2] + ".py"]
            defined = {part.name for part in source.body if isinstance(part, (ast.FunctionDef, ast.ClassDef))}
            defined.update(part.targets[0].id for part in source.body if isinstance(part, ast.Assign))
            for alias in node.names:
                self.assertIn(alias.name, defined, place)
                self.assertIsNone(alias.asname, place)

    def test_no_two_files_import_from_each_other(self):
        wants = {}
        for name, tree in self.trees.items():
            wants[name] = {node.module.partition(".")[2] + ".py" for node in tree.body if isinstance(node, ast.ImportFrom)}
        while wants:
            done = [name for name, others in wants.items() if not others & set(wants)]
            self.assertTrue(done, wants)
            for name in done:
                del wants[name]

    def test_module_level(self):
        for name, tree in self.trees.items():
            names = []
            for at, node in enumerate(tree.body):
                if at == 0:
                    self.assertIsInstance(node, ast.Expr, name)
                    continue
                self.assertIsInstance(node, (ast.ImportFrom, ast.FunctionDef, ast.ClassDef, ast.Assign), name)
                if isinstance(node, ast.Assign):
                    names.extend(target.id for target in node.targets)
                elif isinstance(node, ast.ImportFrom):
                    names.extend(alias.name for alias in node.names)
                else:
                    names.append(node.name)
            self.assertEqual(len(names), len(set(names)), name)

    def test_statements(self):
        for place, node in self.nodes(ast.stmt):
            self.assertIsInstance(node, STATEMENTS, place)

    def test_expressions(self):
        for place, node in self.nodes(ast.expr):
            self.assertNotIsInstance(
                node, (ast.GeneratorExp, ast.Await, ast.Yield, ast.YieldFrom, ast.NamedExpr), place)
            if isinstance(node, ast.BinOp):
                self.assertNotIsInstance(node.op, (ast.Div, ast.MatMult), place)
            if isinstance(node, ast.Constant):
                self.assertNotIsInstance(node.value, (float, complex), place)
                if isinstance(node.value, str):
                    self.assertNotIn("%", node.value, place)

    def test_identity_is_asked_of_none_and_truths_alone(self):
        for place, node in self.nodes(ast.Compare):
            for op, right in zip(node.ops, node.comparators):
                if isinstance(op, (ast.Is, ast.IsNot)):
                    self.assertIsInstance(right, ast.Constant, place)

    def test_builtins_and_names(self):
        all_builtins = set(dir(builtins))
        for place, node in self.nodes(ast.Name, ast.arg, ast.Attribute, ast.FunctionDef, ast.ClassDef):
            if isinstance(node, ast.Name):
                word = node.id
                if word in all_builtins:
                    self.assertIn(word, BUILTINS, place)
                    self.assertIsInstance(node.ctx, ast.Load, place)
            elif isinstance(node, ast.arg):
                word = node.arg
                self.assertNotIn(word, all_builtins, place)
            elif isinstance(node, ast.Attribute):
                word = node.attr
            else:
                word = node.name
                self.assertNotIn(word, all_builtins, place)
            self.assertNotIn(word, BARRED, place)
            if word.startswith("__"):
                self.assertIn(word, DUNDERS, place)

    def test_class_names_begin_with_a_letter(self):
        for place, node in self.nodes(ast.ClassDef):
            self.assertTrue(node.name[0].isalpha(), place)

    def test_no_name_is_a_method_and_an_attribute(self):
        methods, attributes = set(), set()
        for _, node in self.nodes(ast.ClassDef):
            methods.update(part.name for part in node.body if isinstance(part, ast.FunctionDef))
        for _, node in self.nodes(ast.Attribute):
            if isinstance(node.ctx, ast.Store):
                attributes.add(node.attr)
        self.assertEqual(methods & attributes, set())
        for place, node in self.nodes(ast.Attribute):
            self.assertIn(node.attr, methods | attributes | METHODS, place)

    def test_views_and_the_like_are_iterated_at_once(self):
        for place, node in self.nodes(ast.Assign, ast.Return):
            call = node.value
            if isinstance(call, ast.Call):
                name = call.func.id if isinstance(call.func, ast.Name) else call.func.attr
                self.assertNotIn(name, ("zip", "enumerate", "reversed", "range", "items", "keys", "values"), place)

    def test_methods_are_known_or_own(self):
        own = {node.name for _, node in self.nodes(ast.FunctionDef)}
        for place, node in self.nodes(ast.Call):
            if isinstance(node.func, ast.Attribute):
                self.assertIn(node.func.attr, METHODS | own, place)

    def test_errors_are_caught_by_name(self):
        for place, node in self.nodes(ast.ExceptHandler):
            self.assertIsInstance(node.type, ast.Name, place)
            self.assertNotIn(node.type.id, ("Exception", "TypeError", "BaseException", "RecursionError"), place)

    def test_locals_have_no_name_of_a_class_or_an_import(self):
        for name, tree in self.trees.items():
            taken = {node.name for node in tree.body if isinstance(node, ast.ClassDef)}
            for node in tree.body:
                if isinstance(node, ast.ImportFrom):
                    taken.update(alias.name for alias in node.names)
            for node in ast.walk(tree):
                if isinstance(node, ast.arg):
                    self.assertNotIn(node.arg, taken, name)
                if isinstance(node, ast.Name) and isinstance(node.ctx, ast.Store):
                    self.assertNotIn(node.id, taken, name)

    def test_attributes_are_assigned_through_a_local_name(self):
        for place, node in self.nodes(ast.Attribute):
            if isinstance(node.ctx, ast.Store):
                self.assertIsInstance(node.value, ast.Name, place)

    def test_a_finally_is_simple(self):
        for place, node in self.nodes(ast.Try):
            for row in node.finalbody:
                self.assertIsInstance(row, (ast.AugAssign, ast.Expr), place)
                self.assertFalse([part for part in ast.walk(row) if isinstance(part, (ast.Subscript, ast.JoinedStr, ast.Starred))], place)

    def test_underscore_is_never_read(self):
        for place, node in self.nodes(ast.Name):
            if node.id == "_":
                self.assertIsInstance(node.ctx, ast.Store, place)


if __name__ == "__main__":
    unittest.main()
