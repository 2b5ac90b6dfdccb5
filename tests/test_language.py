"""What of the rules for the package's code can be seen by its syntax; ../shared/LANGUAGE.md has them all."""

import ast
import builtins
import pathlib
import re
import unittest

PACKAGE = pathlib.Path(__file__).resolve().parent.parent / "poisonrules"
BUILTINS = set(
    "len range enumerate zip min max sum abs sorted reversed int str bool list tuple dict set isinstance ord repr any"
    " all divmod super ValueError KeyError".split())
METHODS = set(
    "append clear copy count endswith extend find get index insert isalnum isalpha isdigit islower isspace isupper"
    " items join keys ljust lower lstrip partition pop remove replace reverse rfind rjust rpartition rsplit rstrip"
    " setdefault split splitlines startswith strip update upper values zfill bit_length removeprefix removesuffix"
    " isascii isdecimal add discard".split())
BARRED = set(
    "register mro elements open input law version_info with_traceback add_note compile copyright credits delattr dir"
    " eval exec exit gc globals help id importlib license locals os quit type vars format sys".split())
BARRED_WORDS = re.compile(
    r"\b(type|typing|enum|Enum|Flag|Generic|Protocol|ABC|namedtuple|NamedTuple|TypedDict)\b|dataclass|overload")
STATEMENTS = (
    ast.Assign, ast.AugAssign, ast.If, ast.While, ast.For, ast.Return, ast.Break, ast.Continue, ast.Pass, ast.Raise,
    ast.Assert, ast.Delete, ast.Try, ast.Expr, ast.FunctionDef, ast.ClassDef, ast.ImportFrom)
BARRED_ATTRIBUTES = set(
    "items keys values pop update append clear extend insert remove reverse setdefault sort args encode decode hex"
    " fromhex format".split())
LIBRARY = {"heapq", "math", "itertools", "collections"}


def parsed():
    """(path, text, tree) of each file of the package."""
    found = []
    for path in sorted(PACKAGE.glob("*.py")):
        text = path.read_text(encoding="ascii")
        found.append((path, text, ast.parse(text)))
    return found


def nodes(kind):
    """(where, node) of each node of a kind in the package."""
    return [(f"{path.name}:{getattr(node, 'lineno', 0)}", node)
            for path, _, tree in parsed() for node in ast.walk(tree) if isinstance(node, kind)]


def assigned_attributes(node):
    """The names of all attributes that a class's methods assign."""
    return {one.attr for one in ast.walk(node) if isinstance(one, ast.Attribute) and isinstance(one.ctx, ast.Store)}


def is_plain_value(node, functions=()):
    if isinstance(node, (ast.Tuple, ast.List)):
        return all(is_plain_value(one) for one in node.elts)
    if isinstance(node, ast.Dict):
        # A table may have functions that stand above it.
        return all(is_plain_value(one) or isinstance(one, ast.Name) and one.id in functions
                   for one in (*node.keys, *node.values))
    if isinstance(node, ast.UnaryOp):
        return isinstance(node.op, ast.USub) and isinstance(node.operand, ast.Constant)
    return isinstance(node, ast.Constant)


class Files(unittest.TestCase):
    def test_only_plain_files(self):
        names = [path.name for path in PACKAGE.iterdir() if path.name != "__pycache__"]
        self.assertIn("__init__.py", names)
        for name in names:
            self.assertRegex(name, r"^(__init__|[a-z][a-z0-9]*)\.py$")

    def test_sizes_and_signs(self):
        for path, text, tree in parsed():
            lines = text.split("\n")
            self.assertLess(len(lines), 400, path)
            self.assertTrue(all(len(line) <= 120 for line in lines), path)
            self.assertTrue(all(sign == "\n" or " " <= sign <= "~" for sign in text), path)
        for where, node in nodes(ast.FunctionDef):
            self.assertLessEqual(node.end_lineno - node.lineno + 1, 40, where)

    def test_no_two_files_import_from_each_other(self):
        above = {path.stem: {node.module.split(".")[1] for node in tree.body
                             if isinstance(node, ast.ImportFrom) and node.module not in LIBRARY}
                 for path, _, tree in parsed()}
        while above:
            free = [name for name, needs in above.items() if not needs & set(above)]
            self.assertTrue(free, above)
            for name in free:
                del above[name]


class Statements(unittest.TestCase):
    def test_module_level(self):
        for path, _, tree in parsed():
            for node in tree.body:
                where = f"{path.name}:{node.lineno}"
                self.assertIsInstance(node, (ast.Expr, ast.ImportFrom, ast.FunctionDef, ast.ClassDef, ast.Assign), where)
                if isinstance(node, ast.Expr):
                    self.assertIsInstance(node.value.value, str, where)
                if isinstance(node, ast.Assign):
                    self.assertEqual([target.__class__ for target in node.targets], [ast.Name], where)
                    above = {one.name for one in tree.body if isinstance(one, ast.FunctionDef)
                             and one.lineno < node.lineno}
                    self.assertTrue(is_plain_value(node.value, above), where)

    def test_imports_name_the_file_that_defines(self):
        defined = {path.stem: {getattr(node, "name", None) or node.targets[0].id for node in tree.body
                               if isinstance(node, (ast.FunctionDef, ast.ClassDef, ast.Assign))}
                   for path, _, tree in parsed()}
        for where, node in nodes(ast.ImportFrom):
            self.assertEqual(node.level, 0, where)
            if node.module in LIBRARY:
                continue
            package, _, file = node.module.partition(".")
            self.assertEqual(package, "poisonrules", where)
            for one in node.names:
                self.assertIsNone(one.asname, where)
                self.assertIn(one.name, defined[file], where)

    def test_all_that_is_imported_is_used(self):
        for path, _, tree in parsed():
            imported = {one.name for node in tree.body if isinstance(node, ast.ImportFrom) for one in node.names}
            used = {node.id for node in ast.walk(tree) if isinstance(node, ast.Name)}
            self.assertEqual(imported - used, set(), path.name)

    def test_only_allowed_statements(self):
        for where, node in nodes(ast.stmt):
            self.assertIsInstance(node, STATEMENTS, where)

    def test_no_decorators_no_annotations(self):
        for where, node in nodes(ast.FunctionDef):
            self.assertEqual(node.decorator_list, [], where)
            self.assertIsNone(node.returns, where)
        for where, node in nodes(ast.arg):
            self.assertIsNone(node.annotation, where)

    def test_handlers_name_own_errors(self):
        own = {node.name for _, node in nodes(ast.ClassDef)} | {"KeyError"}
        for where, node in nodes(ast.ExceptHandler):
            self.assertIsInstance(node.type, ast.Name, where)
            self.assertIn(node.type.id, own, where)


class Classes(unittest.TestCase):
    def test_no_name_is_a_method_and_an_attribute(self):
        for where, node in nodes(ast.ClassDef):
            methods = {one.name for one in node.body if isinstance(one, ast.FunctionDef)}
            self.assertFalse(methods & assigned_attributes(node), where)

    def test_no_name_is_a_method_here_and_an_attribute_there(self):
        classes = [node for _, node in nodes(ast.ClassDef)]
        methods = {one.name for node in classes for one in node.body if isinstance(one, ast.FunctionDef)}
        self.assertEqual(methods & {name for node in classes for name in assigned_attributes(node)}, set())

    def test_methods_are_not_read_off_classes(self):
        own = {node.name for _, node in nodes(ast.ClassDef)}
        for where, node in nodes(ast.Attribute):
            self.assertFalse(isinstance(node.value, ast.Name) and node.value.id in own, where)

    def test_what_stands_in_finally(self):
        for where, node in nodes(ast.Try):
            for one in node.finalbody:
                self.assertIsInstance(one, ast.Expr, where)
                self.assertEqual(one.value.func.attr, "append", where)

    def test_attributes_have_names_that_they_may_have(self):
        for where, node in nodes(ast.ClassDef):
            for name in assigned_attributes(node):
                self.assertNotIn(name, BARRED_ATTRIBUTES, where)
                self.assertFalse(any(hasattr(one, name) for one in (0, b"", set())), (where, name))

    def test_only_allowed_methods_with_underscores(self):
        for where, node in nodes(ast.ClassDef):
            for one in node.body:
                if isinstance(one, ast.FunctionDef) and one.name.startswith("__"):
                    self.assertIn(one.name, ("__init__", "__eq__", "__repr__", "__str__", "__len__"), where)


class Expressions(unittest.TestCase):
    def test_stars_in_calls_stand_before_names(self):
        for where, node in nodes(ast.Call):
            for one in node.args:
                if isinstance(one, ast.Starred):
                    self.assertIsInstance(one.value, (ast.Name, ast.Attribute), where)

    def test_no_star_in_an_index(self):
        for where, node in nodes(ast.Subscript):
            self.assertFalse([one for one in ast.walk(node.slice) if isinstance(one, ast.Starred)], where)

    def test_what_is_iterated_at_once_is_not_kept(self):
        for where, node in nodes((ast.Assign, ast.Return)):
            if isinstance(node.value, ast.Call) and isinstance(node.value.func, ast.Name):
                self.assertNotIn(node.value.func.id, ("zip", "enumerate", "reversed", "range"), where)
            if isinstance(node.value, ast.Call) and isinstance(node.value.func, ast.Attribute):
                self.assertNotIn(node.value.func.attr, ("items", "keys", "values"), where)

    def test_shifts_and_powers(self):
        for where, node in nodes(ast.Pow):
            self.fail(where)

    def test_names(self):
        for where, node in nodes((ast.Name, ast.arg, ast.FunctionDef, ast.ClassDef, ast.Attribute)):
            name = [getattr(node, field) for field in ("id", "arg", "name", "attr") if hasattr(node, field)][0]
            self.assertNotIn(name, BARRED, where)
            if isinstance(node, ast.Name) and isinstance(node.ctx, ast.Load):
                self.assertTrue(name in BUILTINS or not hasattr(builtins, name), where)
            elif not isinstance(node, ast.Attribute) and not name.startswith("__"):
                self.assertFalse(hasattr(builtins, name), where)

    def test_no_local_has_the_name_of_an_import(self):
        for path, _, tree in parsed():
            imported = {one.name for node in tree.body if isinstance(node, ast.ImportFrom) for one in node.names}
            bound = {node.id for node in ast.walk(tree) if isinstance(node, ast.Name) and isinstance(node.ctx, ast.Store)}
            bound |= {node.arg for node in ast.walk(tree) if isinstance(node, ast.arg)}
            self.assertEqual(imported & bound, set(), path.name)

    def test_methods(self):
        own = {node.name for _, node in nodes(ast.FunctionDef)}
        for where, node in nodes(ast.Call):
            if isinstance(node.func, ast.Attribute):
                self.assertIn(node.func.attr, METHODS | own, where)

    def test_strings(self):
        for where, node in nodes(ast.Constant):
            if isinstance(node.value, str):
                self.assertNotIn(chr(37), node.value, where)
        for path, text, _ in parsed():
            code = re.sub(r'"""[^"]*"""|#.*', "", text)
            self.assertIsNone(BARRED_WORDS.search(code), path.name)

    def test_no_floats_no_division(self):
        for where, node in nodes((ast.Div, ast.MatMult, ast.Global, ast.Await, ast.AnnAssign)):
            self.fail(where)
        for where, node in nodes(ast.Constant):
            self.assertNotIsInstance(node.value, (float, complex), where)

    def test_is_stands_beside_none_and_truths(self):
        for where, node in nodes(ast.Compare):
            if any(isinstance(op, (ast.Is, ast.IsNot)) for op in node.ops):
                self.assertTrue(any(isinstance(one, ast.Constant) and one.value in (None, True, False)
                                    for one in (node.left, *node.comparators)), where)

    def test_these_take_lists_instead_of_generators(self):
        for where, node in nodes(ast.Call):
            if isinstance(node.func, ast.Name) and node.func.id in ("any", "all", "min", "max", "sum", "sorted"):
                self.assertFalse([one for one in node.args if isinstance(one, ast.GeneratorExp)], where)

    def test_loops_do_not_change_what_they_go_over(self):
        changing = {"append", "extend", "insert", "pop", "remove", "clear", "update", "setdefault", "sort", "reverse"}
        for where, node in nodes(ast.For):
            over = ast.unparse(node.iter)
            for one in ast.walk(ast.Module(body=node.body, type_ignores=[])):
                if isinstance(one, ast.Call) and isinstance(one.func, ast.Attribute) and one.func.attr in changing:
                    self.assertNotEqual(ast.unparse(one.func.value), over, where)
                if isinstance(one, ast.Subscript) and not isinstance(one.ctx, ast.Load):
                    self.assertNotEqual(ast.unparse(one.value), over, where)

    def test_sets_stand_where_they_may(self):
        allowed = set()
        for _, node in nodes(ast.Call):
            if isinstance(node.func, ast.Name) and node.func.id in ("sorted", "len"):
                allowed |= {ast.dump(one, include_attributes=True) for one in node.args}
        for _, node in nodes(ast.Compare):
            allowed |= {ast.dump(one, include_attributes=True) for one in (node.left, *node.comparators)}
        for _, node in nodes(ast.Assign):
            allowed.add(ast.dump(node.value, include_attributes=True))
        for where, node in nodes((ast.SetComp, ast.Set, ast.Call)):
            if isinstance(node, ast.Call) and not (isinstance(node.func, ast.Name) and node.func.id == "set"):
                continue
            self.assertIn(ast.dump(node, include_attributes=True), allowed, where)
