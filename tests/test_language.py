"""Whether the package keeps to its part of Python, as far as a walk over its files can see."""

import ast
import builtins
import pathlib
import re
import unittest

PACKAGE = pathlib.Path(__file__).resolve().parent.parent / "treeasks"
PLAIN_NAME = re.compile(r"^[A-Za-z][A-Za-z0-9_]*$")
OWN_NAMES = set(
    "len range enumerate zip min max sum abs sorted reversed int str bool list tuple dict set frozenset isinstance "
    "ord repr any all divmod Exception ValueError TypeError KeyError IndexError LookupError ZeroDivisionError "
    "ArithmeticError OverflowError RuntimeError NotImplementedError AttributeError StopIteration".split())
OWN_METHODS = set(
    "append clear copy count endswith extend find get index insert isalnum isalpha isdigit islower isspace isupper "
    "items join keys ljust lower lstrip partition pop remove replace reverse rfind rjust rpartition rsplit rstrip "
    "setdefault split splitlines startswith strip update upper values zfill bit_length".split())
WALKED_AT_ONCE = {"zip", "enumerate", "reversed", "range", "items", "keys", "values"}
CHANGES = {"append", "clear", "extend", "insert", "pop", "remove", "reverse", "setdefault", "update"}
TWO_UNDERSCORES = {"__init__", "__eq__", "__repr__", "__str__", "__len__"}
NOT_A_NAME = set(
    "register mro elements open input version_info with_traceback add_note attrgetter breakpoint builtins compile "
    "copyright credits delattr dir eval exec exit gc getattr globals hasattr help id importlib license locals "
    "methodcaller os quit setattr super type vars sys format format_map".split())
NOT_A_WORD = re.compile(
    r"\b(type|typing|typing_extensions|enum|Enum|IntEnum|StrEnum|Flag|IntFlag|Generic|Protocol|ABC|ABCMeta|"
    r"namedtuple|NamedTuple|TypedDict|TYPE_CHECKING|abstractmethod)\b|dataclass|overload|contextmanager")
NOT_A_NODE = (
    ast.With, ast.AsyncWith, ast.Delete, ast.Global, ast.Nonlocal, ast.Assert, ast.Yield, ast.YieldFrom, ast.Await,
    ast.AsyncFor, ast.AsyncFunctionDef, ast.Match, ast.TryStar, ast.Div, ast.MatMult, ast.Set, ast.SetComp,
    ast.DictComp, ast.GeneratorExp, ast.NamedExpr, ast.Starred, ast.Import, ast.AnnAssign)


def files():
    return sorted(PACKAGE.glob("*.py"))


def parsed(path):
    return ast.parse(path.read_text(encoding="ascii"))


def is_plain(node):
    """Whether a value at a file's top or a default is a plain one."""
    if isinstance(node, ast.Constant):
        return node.value is None or isinstance(node.value, (bool, int, str))
    if isinstance(node, ast.UnaryOp) and isinstance(node.op, ast.USub):
        return is_plain(node.operand)
    if isinstance(node, (ast.List, ast.Tuple)):
        return all(is_plain(part) for part in node.elts)
    if isinstance(node, ast.Dict):
        return all(is_plain(part) for part in node.keys + node.values)
    return isinstance(node, ast.Name)


def names_at_top(tree):
    names = []
    for node in tree.body:
        if isinstance(node, (ast.FunctionDef, ast.ClassDef)):
            names.append(node.name)
        elif isinstance(node, ast.Assign):
            names.append(node.targets[0].id)
    return names


def own_methods():
    found = set()
    for path in files():
        for node in ast.walk(parsed(path)):
            if isinstance(node, ast.ClassDef):
                found.update(part.name for part in node.body if isinstance(part, ast.FunctionDef))
    return found


def drawn_from(tree):
    return [node.module for node in tree.body if isinstance(node, ast.ImportFrom)]


class Files(unittest.TestCase):
    def test_only_plainly_named_files(self):
        for path in PACKAGE.iterdir():
            if path.name != "__pycache__":
                self.assertRegex(path.name, r"^(__init__|[a-z][a-z0-9_]*)\.py$")
                self.assertNotRegex(path.name, r"^(test|tests|testing|site|conftest|test_.*)\.py$")
                self.assertNotIn(path.stem, set(dir(builtins)) - {"__init__"})

    def test_signs_and_sizes(self):
        for path in files():
            text = path.read_bytes().decode("ascii")
            self.assertTrue(all(sign == "\n" or " " <= sign <= "~" for sign in text), path)
            rows = text.split("\n")
            self.assertLessEqual(len(rows), 400, path)
            self.assertLessEqual(max(len(row) for row in rows), 120, path)
            self.assertIsNone(NOT_A_WORD.search(text), path)

    def test_top_of_each_file(self):
        for path in files():
            tree = parsed(path)
            self.assertIsNotNone(ast.get_docstring(tree), path)
            for node in tree.body[1:]:
                if isinstance(node, ast.Assign):
                    self.assertTrue(len(node.targets) == 1 and is_plain(node.value), (path, node.lineno))
                else:
                    self.assertIsInstance(node, (ast.ImportFrom, ast.FunctionDef, ast.ClassDef), path)
            names = names_at_top(tree)
            self.assertEqual(len(names), len(set(names)), path)

    def test_imports_are_from_the_file_that_defines_the_name(self):
        for path in files():
            for node in ast.walk(parsed(path)):
                if isinstance(node, ast.ImportFrom):
                    package, module = node.module.split(".")
                    self.assertEqual((node.level, package), (0, "treeasks"), path)
                    there = names_at_top(parsed(PACKAGE / f"{module}.py"))
                    for alias in node.names:
                        self.assertIn(alias.name, there, path)
                        self.assertIsNone(alias.asname, path)

    def test_no_two_files_draw_from_one_another(self):
        draws = {f"treeasks.{path.stem}": drawn_from(parsed(path)) for path in files()}
        while draws:
            ends = [name for name in draws if not any(other in draws for other in draws[name])]
            self.assertTrue(ends, draws)
            draws = {name: draws[name] for name in draws if name not in ends}


class Forms(unittest.TestCase):
    def each(self, *kinds):
        for path in files():
            for node in ast.walk(parsed(path)):
                if isinstance(node, kinds):
                    yield f"{path.name}:{getattr(node, 'lineno', '?')}", node

    def test_no_form_outside(self):
        for where, node in self.each(*NOT_A_NODE):
            self.fail(f"{where}: {node}")

    def test_functions(self):
        for where, node in self.each(ast.FunctionDef):
            self.assertLessEqual(node.end_lineno - node.lineno + 1, 40, where)
            self.assertFalse(node.decorator_list or node.returns, where)
        for where, node in self.each(ast.arguments):
            self.assertFalse(node.vararg or node.kwarg or node.kwonlyargs or node.posonlyargs, where)
            self.assertTrue(all(is_plain(part) for part in node.defaults), where)
            self.assertFalse(any(part.annotation for part in node.args), where)

    def test_classes(self):
        for where, node in self.each(ast.ClassDef):
            self.assertFalse(node.decorator_list or node.keywords, where)
            self.assertLessEqual(len(node.bases), 1, where)
            for part in node.body:
                self.assertIsInstance(part, (ast.FunctionDef, ast.Pass), where)
                if isinstance(part, ast.FunctionDef) and part.name.startswith("_"):
                    self.assertIn(part.name, TWO_UNDERSCORES, where)

    def test_statements(self):
        for where, node in self.each(ast.For, ast.While):
            self.assertFalse(node.orelse, where)
        for where, node in self.each(ast.Try):
            self.assertFalse(node.finalbody, where)
        for where, node in self.each(ast.ExceptHandler):
            self.assertIsNotNone(node.type, where)
            for name in ast.walk(node.type):
                self.assertNotIn(getattr(name, "id", ""), ("Exception", "TypeError"), where)
        for where, node in self.each(ast.Assign):
            self.assertEqual(len(node.targets), 1, where)
        for where, node in self.each(ast.Raise):
            self.assertIsInstance(node.exc, ast.Call, where)
        for where, node in self.each(ast.Expr):
            self.assertTrue(isinstance(node.value, ast.Call) or where.endswith(":1"), where)

    def test_names(self):
        for where, node in self.each(ast.Name, ast.arg):
            name = node.id if isinstance(node, ast.Name) else node.arg
            self.assertRegex(name, PLAIN_NAME, where)
            self.assertNotIn(name, NOT_A_NAME, where)
            read = isinstance(node, ast.Name) and isinstance(node.ctx, ast.Load)
            if hasattr(builtins, name):
                self.assertTrue(read and name in OWN_NAMES, f"{where}: {name}")

    def test_parameters_and_locals_are_not_called_like_classes_or_imports(self):
        for path in files():
            tree = parsed(path)
            taken = {node.name for node in tree.body if isinstance(node, ast.ClassDef)}
            for node in tree.body:
                if isinstance(node, ast.ImportFrom):
                    taken.update(alias.name for alias in node.names)
            for node in ast.walk(tree):
                if isinstance(node, ast.Name) and isinstance(node.ctx, ast.Store):
                    self.assertNotIn(node.id, taken, f"{path.name}:{node.lineno}")
                if isinstance(node, ast.arg):
                    self.assertNotIn(node.arg, taken, f"{path.name}:{node.lineno}")

    def test_attributes(self):
        allowed = OWN_METHODS | own_methods()
        for where, node in self.each(ast.Attribute):
            self.assertNotIn(node.attr, NOT_A_NAME, where)
        for where, node in self.each(ast.Call):
            if isinstance(node.func, ast.Attribute):
                self.assertIn(node.func.attr, allowed, where)

    def test_values(self):
        for where, node in self.each(ast.Constant):
            self.assertTrue(is_plain(node), where)
            if isinstance(node.value, str):
                self.assertNotIn("%", node.value, where)
        for where, node in self.each(ast.FormattedValue):
            self.assertIsInstance(node.value, ast.Name, where)
            self.assertIn(node.conversion, (-1, ord("r")), where)
            self.assertIsNone(node.format_spec, where)
        for where, node in self.each(ast.ListComp):
            self.assertTrue(len(node.generators) == 1 and len(node.generators[0].ifs) <= 1, where)

    def test_is_and_powers(self):
        for where, node in self.each(ast.Compare):
            for sign, side in zip(node.ops, node.comparators):
                if isinstance(sign, (ast.Is, ast.IsNot)):
                    self.assertIsInstance(side, ast.Constant, where)
        for where, node in self.each(ast.BinOp, ast.AugAssign):
            if isinstance(node.op, ast.Pow):
                power = node.right if isinstance(node, ast.BinOp) else node.value
                self.assertTrue(isinstance(power, ast.Constant) and 0 <= power.value <= 64, where)

    def test_sets_stand_where_they_are_asked(self):
        for path in files():
            stands = {}
            for node in ast.walk(parsed(path)):
                for part in ast.iter_child_nodes(node):
                    stands[part] = node
            for node in [part for part in stands if isinstance(part, ast.Call) and getattr(part.func, "id", "") == "set"]:
                around = stands[node]
                while isinstance(around, ast.BinOp) and isinstance(around.op, (ast.Sub, ast.BitAnd, ast.BitOr, ast.BitXor)):
                    around = stands[around]
                called = isinstance(around, ast.Call) and getattr(around.func, "id", "") in ("sorted", "len")
                self.assertTrue(isinstance(around, ast.Compare) or called and not around.keywords, (path, node.lineno))

    def test_what_is_walked_at_once_is_not_kept(self):
        for where, node in self.each(ast.Assign, ast.Return):
            if isinstance(node.value, ast.Call):
                called = node.value.func
                name = called.id if isinstance(called, ast.Name) else getattr(called, "attr", "")
                self.assertNotIn(name, WALKED_AT_ONCE, where)


    def test_keywords(self):
        allowed = {"sorted": {"key", "reverse"}, "min": {"key", "default"}, "max": {"key", "default"}, "sum": {"start"},
                   "enumerate": {"start"}, "zip": {"strict"}}
        for where, node in self.each(ast.Call):
            names = {word.arg for word in node.keywords}
            self.assertLessEqual(names, allowed.get(getattr(node.func, "id", ""), set()), where)

    def test_what_a_loop_walks_is_not_changed_in_it(self):
        for where, node in self.each(ast.For):
            walked = {name.id for name in ast.walk(node.iter) if isinstance(name, ast.Name)} - OWN_NAMES
            for part in [part for inner in node.body for part in ast.walk(inner)]:
                if isinstance(part, ast.Call) and isinstance(part.func, ast.Attribute) and part.func.attr in CHANGES:
                    self.assertNotIn(getattr(part.func.value, "id", ""), walked, where)
                if isinstance(part, ast.Subscript) and isinstance(part.ctx, ast.Store):
                    self.assertNotIn(getattr(part.value, "id", ""), walked, where)

    def test_handlers_take_refusals_alone(self):
        refusals = names_at_top(parsed(PACKAGE / "errors.py"))
        for where, node in self.each(ast.ExceptHandler):
            for name in node.type.elts if isinstance(node.type, ast.Tuple) else [node.type]:
                self.assertIn(name.id, refusals, where)
        for where, node in self.each(ast.Raise):
            self.assertIn(node.exc.func.id, refusals, where)
            self.assertTrue(node.cause is None or getattr(node.cause, "value", "") is None, where)

    def test_lists_and_dicts_of_the_top_are_only_read(self):
        for path in files():
            tree = parsed(path)
            tops = {node.targets[0].id for node in tree.body
                    if isinstance(node, ast.Assign) and isinstance(node.value, (ast.List, ast.Dict))}
            for node in tree.body:
                if isinstance(node, ast.Assign) and isinstance(node.value, (ast.List, ast.Dict)):
                    within = list(ast.walk(node.value))[1:]
                    self.assertFalse([part for part in within if isinstance(part, (ast.List, ast.Dict))], path)
            stands = {part: node for node in ast.walk(tree) for part in ast.iter_child_nodes(node)}
            for name in [part for part in stands if isinstance(part, ast.Name) and part.id in tops]:
                around = stands[name]
                if isinstance(name.ctx, ast.Load):
                    self.assertTrue(
                        isinstance(around, ast.Compare)
                        or isinstance(around, ast.Subscript) and isinstance(around.ctx, ast.Load)
                        or isinstance(around, ast.Attribute) and around.attr == "get", (path, name.lineno))


class Classes(unittest.TestCase):
    def test_no_name_is_a_method_and_a_value(self):
        methods, values = own_methods(), set()
        for path in files():
            for node in ast.walk(parsed(path)):
                if isinstance(node, ast.Attribute) and isinstance(node.ctx, ast.Store):
                    values.add(node.attr)
        self.assertFalse(methods & values)
        taken = {name for kind in (str, int, list, dict, set, bytes) for name in dir(kind)}
        self.assertFalse(values & taken)
        self.assertFalse(methods & taken - TWO_UNDERSCORES)
        self.assertFalse((methods | values) & {"args", "encode", "format"})

    def test_methods_stand_once(self):
        for path in files():
            tree = parsed(path)
            for node in tree.body:
                if isinstance(node, ast.ClassDef):
                    names = [part.name for part in node.body if isinstance(part, ast.FunctionDef)]
                    self.assertEqual(len(names), len(set(names)), path)


if __name__ == "__main__":
    unittest.main()
