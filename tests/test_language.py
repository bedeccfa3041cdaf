"""The form of the code: a part of the Python that the program may use, narrower than the whole of it.

Whatever the package comes to need beyond this is added here, as shared/LANGUAGE.md allows it.
"""

import ast
import builtins
import pathlib
import unittest

# A doctest that ran ahead leaves a "_" among the builtins.
BUILTINS = [name for name in dir(builtins) if name != "_"]
FOLDER = pathlib.Path(__file__).parent.parent / "guardbooks"

STATEMENTS = (
    ast.FunctionDef, ast.ClassDef, ast.Return, ast.Assign, ast.AugAssign, ast.For, ast.While, ast.If, ast.Raise,
    ast.ImportFrom, ast.Expr, ast.Break, ast.Continue, ast.Pass, ast.Try)
EXPRESSIONS = (
    ast.BoolOp, ast.BinOp, ast.UnaryOp, ast.IfExp, ast.Dict, ast.ListComp, ast.DictComp, ast.Compare, ast.Call,
    ast.Constant, ast.Attribute, ast.Subscript, ast.Name, ast.List, ast.Tuple, ast.Slice, ast.SetComp)
CALLED = (
    "len", "range", "enumerate", "min", "max", "sum", "abs", "sorted", "reversed", "int", "str", "bool", "list",
    "tuple", "dict", "isinstance", "any", "all", "divmod", "zip")
METHODS = (
    "append", "bit_length", "count", "get", "index", "isdecimal", "items", "join", "partition", "pop", "split",
    "startswith", "endswith", "values")
DOUBLE = ("__init__", "__eq__")
BARRED = (
    "mro", "elements", "open", "input", "law", "type", "typing", "enum", "register", "vars", "id", "dir", "eval",
    "exec", "exit", "gc", "os", "sys", "help", "quit", "compile", "super", "locals", "globals")


def files():
    return sorted(path for path in FOLDER.iterdir() if path.name != "__pycache__")


def trees():
    return {path.name: ast.parse(path.read_text(encoding="utf-8")) for path in files()}


def nodes():
    for name, tree in trees().items():
        for node in ast.walk(tree):
            yield f"{name}:{getattr(node, 'lineno', 0)}", node


def defined_in(tree):
    """The names that a module defines itself."""
    names = [node.name for node in tree.body if isinstance(node, (ast.FunctionDef, ast.ClassDef))]
    return names + [node.targets[0].id for node in tree.body if isinstance(node, ast.Assign)]


def imported_by(tree):
    return [(node.module, alias) for node in tree.body if isinstance(node, ast.ImportFrom) for alias in node.names]


def is_plain(value, functions):
    """Whether value is written out at module level: a literal, or a table of functions that stand above."""
    if isinstance(value, ast.Dict):
        return all(isinstance(key, ast.Constant) for key in value.keys) and all(
            is_plain(item, functions) for item in value.values)
    if isinstance(value, ast.Name):
        return value.id in functions
    ast.literal_eval(value)
    return True


def taken_from_tables(tree):
    """The local names that are assigned an item of a table at module level: these may be called."""
    tables = [node.targets[0].id for node in tree.body if isinstance(node, ast.Assign)]
    return [
        node.targets[0].id for node in ast.walk(tree)
        if isinstance(node, ast.Assign) and isinstance(node.value, ast.Subscript)
        and isinstance(node.value.value, ast.Name) and node.value.value.id in tables]


def classes():
    return [node for _, node in nodes() if isinstance(node, ast.ClassDef)]


def methods_of(node):
    return [one for one in node.body if isinstance(one, ast.FunctionDef) and one.name not in DOUBLE]


def own_methods():
    """The names of the methods that the package's classes define, but for properties."""
    return {one.name for node in classes() for one in methods_of(node) if not one.decorator_list}


def own_properties():
    return {one.name for node in classes() for one in methods_of(node) if one.decorator_list}


def own_attributes():
    """The names of the attributes that are assigned anywhere."""
    return {
        node.attr for _, node in nodes() if isinstance(node, ast.Attribute) and isinstance(node.ctx, ast.Store)}


def bound_names(tree):
    for node in ast.walk(tree):
        if isinstance(node, ast.Name) and isinstance(node.ctx, ast.Store):
            yield node.id
        elif isinstance(node, ast.arg):
            yield node.arg
        elif isinstance(node, (ast.FunctionDef, ast.ClassDef)) and node.name not in DOUBLE:
            yield node.name


class FilesTest(unittest.TestCase):

    def test_plain_files_alone(self):
        self.assertIn("__init__.py", [path.name for path in files()])
        for path in files():
            self.assertTrue(path.is_file() and path.suffix == ".py", path)
            self.assertRegex(path.stem, r"^([a-z][a-z0-9_]*|__init__)$")

    def test_characters_and_sizes(self):
        for path in files():
            text = path.read_text(encoding="utf-8")
            self.assertTrue(all(sign == "\n" or " " <= sign <= "~" for sign in text), path)
            lines = text.split("\n")
            self.assertLessEqual(len(lines), 400, path)
            self.assertLessEqual(max(len(line) for line in lines), 120, path)
            self.assertTrue(text.endswith("\n") and not text.endswith("\n\n"), path)

    def test_functions_are_small(self):
        for place, node in nodes():
            if isinstance(node, ast.FunctionDef):
                self.assertLessEqual(node.end_lineno - node.lineno + 1, 40, place)


class FormTest(unittest.TestCase):

    def test_kinds_of_statements_and_expressions(self):
        for place, node in nodes():
            if isinstance(node, ast.stmt):
                self.assertIsInstance(node, STATEMENTS, place)
            if isinstance(node, ast.expr):
                self.assertIsInstance(node, EXPRESSIONS, place)
            if isinstance(node, ast.FunctionDef):
                for decorator in node.decorator_list:
                    self.assertEqual(ast.unparse(decorator), "property", place)
                    self.assertEqual([arg.arg for arg in node.args.args], ["self"], place)
                self.assertTrue(node.args.vararg is None and node.args.kwarg is None, place)
            if isinstance(node, ast.BinOp):
                self.assertNotIsInstance(node.op, (ast.Div, ast.Mod, ast.Pow, ast.MatMult), place)
            if isinstance(node, ast.Constant):
                self.assertIn(type(node.value), (int, str, bool, type(None)), place)

    def test_no_functions_in_functions(self):
        for place, node in nodes():
            if isinstance(node, ast.FunctionDef):
                inner = [one for one in ast.walk(node) if isinstance(one, (ast.FunctionDef, ast.ClassDef))]
                self.assertEqual(inner, [node], place)

    def test_module_level(self):
        for name, tree in trees().items():
            names = [alias.name for _, alias in imported_by(tree)] + defined_in(tree)
            self.assertEqual(len(names), len(set(names)), name)
            kinds = [type(node) for node in tree.body]
            self.assertEqual(kinds[0], ast.Expr, name)
            self.assertIsInstance(tree.body[0].value, ast.Constant, name)
            above = []
            for node in tree.body[1:]:
                self.assertIsInstance(node, (ast.ImportFrom, ast.Assign, ast.FunctionDef, ast.ClassDef), name)
                if isinstance(node, ast.FunctionDef):
                    above.append(node.name)
                if isinstance(node, ast.Assign):
                    self.assertEqual(len(node.targets), 1, name)
                    self.assertIsInstance(node.targets[0], ast.Name, name)
                    self.assertTrue(is_plain(node.value, above), name)
            last = max([at for at, kind in enumerate(kinds) if kind is ast.ImportFrom], default=0)
            self.assertEqual([kind for kind in kinds[1:last] if kind is not ast.ImportFrom], [], name)

    def test_imports(self):
        modules = trees()
        for name, tree in modules.items():
            for module, alias in imported_by(tree):
                self.assertTrue(module.startswith("guardbooks.") and alias.asname is None, name)
                self.assertIn(alias.name, defined_in(modules[module.split(".")[1] + ".py"]), name)
                used = [node.id for node in ast.walk(tree) if isinstance(node, ast.Name)]
                self.assertIn(alias.name, used, f"{name} imports {alias.name} for nothing")
            told = [node for node in ast.walk(tree) if isinstance(node, (ast.Import, ast.ImportFrom))]
            self.assertEqual(len(told), len([node for node in tree.body if isinstance(node, ast.ImportFrom)]), name)

    def test_no_two_files_import_from_each_other(self):
        wants = {
            name[:-3]: [module.split(".")[1] for module, _ in imported_by(tree)] for name, tree in trees().items()}
        while wants:
            free = [name for name, others in wants.items() if not [one for one in others if one in wants]]
            self.assertNotEqual(free, [], f"a ring among {sorted(wants)}")
            for name in free:
                del wants[name]

    def test_calls(self):
        for name, tree in trees().items():
            known = [*CALLED, *defined_in(tree), *[alias.name for _, alias in imported_by(tree)], "ValueError"]
            known += taken_from_tables(tree)
            methods = {*METHODS, *own_methods()}
            bases = [ast.unparse(base) for node in ast.walk(tree) if isinstance(node, ast.ClassDef) for base in node.bases]
            for node in ast.walk(tree):
                if isinstance(node, ast.Attribute) and ast.unparse(node) == "type(error).__name__":
                    known.append("type")
            for node in ast.walk(tree):
                if isinstance(node, ast.Call) and isinstance(node.func, ast.Name):
                    self.assertIn(node.func.id, known, f"{name}:{node.lineno}")
                elif isinstance(node, ast.Call):
                    self.assertIsInstance(node.func, ast.Attribute, f"{name}:{node.lineno}")
                    if node.func.attr == "__init__":
                        self.assertIn(ast.unparse(node.func.value), bases, f"{name}:{node.lineno}")
                    else:
                        self.assertIn(node.func.attr, methods, f"{name}:{node.lineno}")

    def test_sets_are_sorted_at_once(self):
        """A set comprehension stands directly in sorted(..), and no other set is there."""
        made = [place for place, node in nodes() if isinstance(node, ast.SetComp)]
        sorted_at_once = [
            place for place, node in nodes() if isinstance(node, ast.Call) and ast.unparse(node.func) == "sorted"
            and [arg for arg in node.args if isinstance(arg, ast.SetComp)] and not node.keywords]
        self.assertEqual(len(made), len(sorted_at_once))

    def test_double_underscores(self):
        for place, node in nodes():
            if isinstance(node, ast.FunctionDef) and node.name.startswith("__"):
                self.assertIn(node.name, DOUBLE, place)
            if isinstance(node, ast.Attribute) and node.attr.startswith("__"):
                self.assertIn(node.attr, ("__init__", "__name__"), place)
            if isinstance(node, ast.FunctionDef) and node.name == "__eq__":
                self.assertRegex(ast.unparse(node.body[0]), r"^if not isinstance\(other, \w+\):\n +return False$", place)

    def test_methods_attributes_and_properties_are_apart(self):
        self.assertEqual(own_methods() & own_attributes(), set())
        self.assertEqual(own_properties() & (own_methods() | own_attributes()), set())
        for node in classes():
            names = [one.name for one in methods_of(node)]
            self.assertEqual(len(names), len(set(names)), node.name)

    def test_properties_change_nothing(self):
        for node in classes():
            for one in methods_of(node):
                if one.decorator_list:
                    kinds = [type(row) for row in one.body]
                    self.assertLessEqual(set(kinds), {ast.Expr, ast.Assign, ast.Return}, one.name)
                    for inner in ast.walk(one):
                        if isinstance(inner, (ast.Attribute, ast.Subscript)):
                            self.assertIsInstance(inner.ctx, ast.Load, one.name)

    def test_attributes_are_assigned_off_local_names(self):
        for place, node in nodes():
            if isinstance(node, ast.Attribute) and isinstance(node.ctx, ast.Store):
                self.assertIsInstance(node.value, ast.Name, place)

    def test_only_own_errors_are_caught(self):
        own = defined_in(trees()["errors.py"])
        for place, node in nodes():
            if isinstance(node, ast.Try):
                self.assertEqual((node.orelse, node.finalbody), ([], []), place)
                for handler in node.handlers:
                    self.assertIn(handler.name, (None, "error"), place)
                    caught = handler.type.elts if isinstance(handler.type, ast.Tuple) else [handler.type]
                    for error in caught:
                        self.assertIn(error.id, own, place)

    def test_names(self):
        for name, tree in trees().items():
            outer = [alias.name for _, alias in imported_by(tree)]
            for bound in bound_names(tree):
                self.assertRegex(bound, r"^(_|_?[A-Za-z][A-Za-z0-9_]*)$", name)
                self.assertNotIn(bound, BUILTINS, name)
                self.assertNotIn(bound, BARRED, name)
                self.assertNotIn(bound, outer, f"{name}: {bound} is imported, too")

    def test_strings(self):
        for place, node in nodes():
            if isinstance(node, ast.Constant) and isinstance(node.value, str):
                self.assertNotIn("%", node.value, place)
                self.assertNotIn("__", node.value, place)

    def test_is_stands_beside_none_alone(self):
        for place, node in nodes():
            if isinstance(node, ast.Compare):
                for sign, other in zip(node.ops, node.comparators):
                    if isinstance(sign, (ast.Is, ast.IsNot)):
                        self.assertIsInstance(other, ast.Constant, place)

    def test_what_a_loop_goes_over_is_not_changed_in_it(self):
        for place, node in nodes():
            if isinstance(node, ast.For):
                over = {one.id for one in ast.walk(node.iter) if isinstance(one, ast.Name)}
                for one in ast.walk(node):
                    if isinstance(one, ast.Call) and isinstance(one.func, ast.Attribute):
                        if one.func.attr in ("append", "pop") and isinstance(one.func.value, ast.Name):
                            self.assertNotIn(one.func.value.id, over, place)


if __name__ == "__main__":
    unittest.main()
