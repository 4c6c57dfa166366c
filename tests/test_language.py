"""The small part of Python that the package keeps to, as far as a walk over its files can see it."""

import ast
import builtins
import os
import re
import unittest

TOP = os.path.join(os.path.dirname(os.path.dirname(os.path.abspath(__file__))), "enoughsaid")

OWN = set("""len range enumerate zip min max sum abs sorted reversed int str bool list tuple dict set frozenset isinstance
    ord repr any all divmod Exception ValueError TypeError KeyError IndexError LookupError ZeroDivisionError
    ArithmeticError OverflowError RuntimeError NotImplementedError AttributeError StopIteration""".split())
METHODS = set("""append clear copy count endswith extend find get index insert isalnum isalpha isdigit islower isspace
    isupper items join keys ljust lower lstrip partition pop remove replace reverse rfind rjust rpartition rsplit rstrip
    setdefault split splitlines startswith strip update upper values zfill bit_length""".split())
BAD_NAMES = set("""register mro elements open input version_info with_traceback add_note attrgetter breakpoint builtins
    compile copyright credits delattr dir eval exec exit gc getattr globals hasattr help id importlib license locals
    methodcaller os quit setattr super type vars sys print chr format format_map""".split())
BAD_WORDS = re.compile(r"\b(type|typing|typing_extensions|enum|Enum|IntEnum|StrEnum|Flag|IntFlag|Generic|Protocol|ABC|"
                       r"ABCMeta|namedtuple|NamedTuple|TypedDict|TYPE_CHECKING|abstractmethod)\b|"
                       r"dataclass|overload|contextmanager")
STATEMENTS = (ast.FunctionDef, ast.ClassDef, ast.Return, ast.Assign, ast.AugAssign, ast.For, ast.While, ast.If, ast.Raise,
              ast.Try, ast.ImportFrom, ast.Expr, ast.Pass, ast.Break, ast.Continue)
EXPRESSIONS = (ast.BoolOp, ast.BinOp, ast.UnaryOp, ast.Lambda, ast.IfExp, ast.Dict, ast.Set, ast.ListComp, ast.Compare,
               ast.Call, ast.FormattedValue, ast.JoinedStr, ast.Constant, ast.Attribute, ast.Subscript, ast.Name, ast.List,
               ast.Tuple, ast.Slice)
WALKED = ("zip", "enumerate", "reversed", "range")
WALKERS = ("list", "tuple", "dict", "sorted", "sum", "any", "all", "enumerate", "zip", "min", "max", "join")
TWO_UNDERSCORES = ("__init__", "__eq__", "__repr__", "__str__", "__len__")


def files():
    return sorted(name for name in os.listdir(TOP) if name != "__pycache__")


def source(name):
    with open(os.path.join(TOP, name), encoding="utf-8") as handle:
        return handle.read()


def called(node):
    if not isinstance(node, ast.Call):
        return None
    return getattr(node.func, "id", getattr(node.func, "attr", None))


class Language(unittest.TestCase):
    where = ""

    def _formatMessage(self, msg, standardMsg):
        return f"{self.where}: {super()._formatMessage(msg, standardMsg)}"

    def each_node(self):
        for name in files():
            tree = ast.parse(source(name))
            for node in ast.walk(tree):
                for child in ast.iter_child_nodes(node):
                    child.above = node
            for node in ast.walk(tree):
                self.where = f"{name}, line {getattr(node, 'lineno', 0)}"
                yield name, node

    def test_files_and_signs(self):
        self.assertIn("__init__.py", files())
        for name in files():
            text = source(name)
            self.assertRegex(name, r"^(__init__|__main__|[a-z][a-z0-9_]*)\.py$")
            self.assertNotIn(name[:-3], dir(builtins))
            self.assertEqual([sign for sign in text if sign != "\n" and not " " <= sign <= "~"], [])
            self.assertLessEqual(len(text.split("\n")), 400)
            self.assertLessEqual(max(map(len, text.split("\n"))), 120)
            self.assertIsNone(BAD_WORDS.search(text), name)

    def test_statements_and_expressions(self):
        for name, node in self.each_node():
            if isinstance(node, ast.stmt):
                self.assertIsInstance(node, STATEMENTS)
            if isinstance(node, ast.expr):
                self.assertIsInstance(node, EXPRESSIONS)
            if isinstance(node, ast.Constant):
                self.assertIsInstance(node.value, (int, str, bool, type(None)))
            if isinstance(node, ast.Assign):
                self.assertEqual(len(node.targets), 1)
                self.assertNotIsInstance(node.targets[0], (ast.Tuple, ast.List))
            if isinstance(node, (ast.For, ast.While)):
                self.assertEqual(node.orelse, [])
            if isinstance(node, ast.ListComp):
                self.assertEqual(len(node.generators), 1)
                self.assertLessEqual(len(node.generators[0].ifs), 1)
            if isinstance(node, ast.BinOp):
                self.assertNotIsInstance(node.op, (ast.Div, ast.MatMult))
            if isinstance(node, ast.Expr) and not isinstance(node.value, ast.Constant):
                self.assertIsInstance(node.value, ast.Call)
            if isinstance(node, ast.FormattedValue):
                self.assertIsInstance(node.value, ast.Name)
                self.assertIsNone(node.format_spec)
            if isinstance(node, ast.Compare):
                for op, right in zip(node.ops, node.comparators):
                    if isinstance(op, (ast.Is, ast.IsNot)):
                        self.assertIn(getattr(right, "value", 0), (None, True, False))

    def test_functions_and_classes(self):
        for name, node in self.each_node():
            if isinstance(node, ast.FunctionDef):
                self.assertLessEqual(node.end_lineno - node.lineno + 1, 40)
                self.assertEqual(node.decorator_list, [])
                self.assertIsNone(node.returns)
                self.assertFalse(node.args.vararg or node.args.kwarg or node.args.kwonlyargs or node.args.posonlyargs)
                if node.name.startswith("_"):
                    self.assertIn(node.name, TWO_UNDERSCORES)
            if isinstance(node, ast.ClassDef):
                self.assertEqual((node.decorator_list, node.keywords), ([], []))
                self.assertLessEqual(len(node.bases), 1)
                self.assertIsInstance(node.above, ast.Module)
                for part in node.body:
                    self.assertIsInstance(part, (ast.FunctionDef, ast.Expr, ast.Pass))
            if isinstance(node, ast.arg):
                self.assertIsNone(node.annotation)
                self.assertNotIn(node.arg, dir(builtins))
                self.assertFalse(node.arg.startswith("_"))

    def test_imports_and_top(self):
        drawn = {}
        for name, node in self.each_node():
            if isinstance(node, ast.ImportFrom):
                self.assertIsInstance(node.above, ast.Module)
                self.assertEqual(node.level, 0)
                self.assertRegex(node.module, r"^enoughsaid\.[a-z]+$")
                drawn.setdefault(name, []).append(node.module.split(".")[1] + ".py")
                defined = {part.name for part in ast.parse(source(drawn[name][-1])).body if hasattr(part, "name")}
                defined |= {part.targets[0].id for part in ast.parse(source(drawn[name][-1])).body
                            if isinstance(part, ast.Assign)}
                for one in node.names:
                    self.assertIn(one.name, defined)
                    self.assertIsNone(one.asname)
            if isinstance(node, ast.Module):
                for part in node.body:
                    self.assertIsInstance(part, (ast.Expr, ast.ImportFrom, ast.FunctionDef, ast.ClassDef, ast.Assign))
                self.assertTrue(ast.get_docstring(node))
        left = set(files())
        while left:
            free = {name for name in left if not set(drawn.get(name, [])) & left}
            self.assertTrue(free, "files draw from one another")
            left -= free

    def test_names(self):
        methods, values = set(), set()
        for name, node in self.each_node():
            if isinstance(node, ast.Name):
                self.assertFalse(node.id.startswith("_"))
                self.assertNotIn(node.id, BAD_NAMES)
                if node.id in dir(builtins):
                    self.assertIn(node.id, OWN)
                    self.assertIsInstance(node.ctx, ast.Load)
            if isinstance(node, ast.Attribute):
                self.assertNotIn(node.attr, ("format", "format_map", "mro", "open", "input", "elements", "register"))
                self.assertTrue(node.attr == "__init__" or not node.attr.startswith("_"))
                if isinstance(node.ctx, ast.Store):
                    values.add(node.attr)
            if isinstance(node, ast.FunctionDef) and isinstance(node.above, ast.ClassDef):
                methods.add(node.name)
        self.assertEqual(methods & values, set())
        for kind in (str, int, list, dict, set, bytes):
            self.assertEqual(values & set(dir(kind)), set())
        for name, node in self.each_node():
            if isinstance(node, ast.Attribute) and isinstance(node.above, ast.Call) and node.above.func is node:
                self.assertIn(node.attr, methods | METHODS | set(TWO_UNDERSCORES))

    def test_locals_are_not_called_like_imports_or_classes(self):
        taken = {name: set() for name in files()}
        for name, node in self.each_node():
            if isinstance(node, ast.ClassDef):
                taken[name].add(node.name)
            if isinstance(node, ast.alias):
                taken[name].add(node.name)
        for name, node in self.each_node():
            if isinstance(node, ast.arg):
                self.assertNotIn(node.arg, taken[name])
            if isinstance(node, ast.Name) and isinstance(node.ctx, ast.Store):
                self.assertNotIn(node.id, taken[name])

    def test_each_name_is_bound_once_at_the_top(self):
        for name, node in self.each_node():
            if isinstance(node, ast.Module):
                bound = [part.name for part in node.body if isinstance(part, (ast.FunctionDef, ast.ClassDef))]
                bound += [part.targets[0].id for part in node.body if isinstance(part, ast.Assign)]
                bound += [one.name for part in node.body if isinstance(part, ast.ImportFrom) for one in part.names]
                self.assertEqual(len(bound), len(set(bound)))

    def test_values_at_the_top_are_plain(self):
        for name, node in self.each_node():
            if not isinstance(node, ast.Module):
                continue
            above = set()
            for part in node.body:
                if isinstance(part, ast.FunctionDef):
                    above.add(part.name)
                if isinstance(part, ast.Assign):
                    self.assertIsInstance(part.targets[0], ast.Name)
                    for one in ast.walk(part.value):
                        self.assertIsInstance(one, (ast.Constant, ast.Tuple, ast.List, ast.Dict, ast.Name, ast.Load))
                        if isinstance(one, ast.Name):
                            self.assertIn(one.id, above)
                        if isinstance(one, (ast.List, ast.Dict)):
                            self.assertIs(one, part.value)

    def test_calls(self):
        for name, node in self.each_node():
            if called(node) in WALKED or (called(node) in ("items", "keys", "values")):
                walked = isinstance(node.above, (ast.For, ast.comprehension)) and node.above.iter is node
                self.assertTrue(walked or called(node.above) in WALKERS)
            if called(node) == "set":
                self.assertTrue(called(node.above) in ("sorted", "len") or isinstance(node.above, (ast.Compare, ast.BinOp)))
            if called(node) == "isinstance":
                self.assertEqual(len(node.args), 2)
            if isinstance(node, ast.Call):
                for word in node.keywords:
                    self.assertIn((called(node), word.arg), [
                        ("sorted", "key"), ("sorted", "reverse"), ("min", "key"), ("max", "key"), ("min", "default"),
                        ("max", "default"), ("sum", "start"), ("enumerate", "start"), ("zip", "strict")])
            if isinstance(node, ast.ExceptHandler):
                self.assertIsNotNone(node.type)
                self.assertNotIn(getattr(node.type, "id", ""), ("Exception", "TypeError", "BaseException"))
            if isinstance(node, ast.Raise):
                self.assertIsInstance(node.exc, ast.Call)


if __name__ == "__main__":
    unittest.main()
