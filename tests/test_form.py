"""The form of the package: what of ../shared/LANGUAGE.md can be seen by looking at the files."""

import ast
import builtins
import keyword
import os
import re
import unittest

PACKAGE = os.path.join(os.path.dirname(os.path.dirname(os.path.abspath(__file__))), "amounttexts")
FILES = sorted(name for name in os.listdir(PACKAGE) if name != "__pycache__")
OWN_NAMES = """len range enumerate zip min max sum abs sorted reversed int str bool list tuple dict set frozenset isinstance
    ord repr any all divmod Exception ValueError TypeError KeyError IndexError LookupError ZeroDivisionError
    ArithmeticError OverflowError RuntimeError NotImplementedError AttributeError StopIteration""".split()
METHODS = """append clear copy count endswith extend find get index insert isalnum isalpha isdigit islower isspace isupper
    items join keys ljust lower lstrip partition pop remove replace reverse rfind rjust rpartition rsplit rstrip
    setdefault split splitlines startswith strip update upper values zfill bit_length""".split()
CHANGING = "append clear extend insert pop remove reverse setdefault update".split()
WALKED = ("zip", "enumerate", "reversed", "range", "items", "keys", "values")
WORDS = """type typing typing_extensions enum Enum IntEnum StrEnum Flag IntFlag Generic Protocol ABC ABCMeta namedtuple
    NamedTuple TypedDict TYPE_CHECKING abstractmethod""".split()
STATEMENTS = (ast.Assign, ast.AugAssign, ast.If, ast.While, ast.For, ast.Return, ast.Break, ast.Continue, ast.Pass,
              ast.Raise, ast.Expr, ast.FunctionDef, ast.ClassDef, ast.ImportFrom)
EXPRESSIONS = (ast.Constant, ast.Name, ast.Attribute, ast.Subscript, ast.Slice, ast.Call, ast.keyword, ast.BinOp,
               ast.UnaryOp, ast.BoolOp, ast.Compare, ast.IfExp, ast.List, ast.Tuple, ast.Dict, ast.ListComp,
               ast.comprehension, ast.JoinedStr, ast.FormattedValue, ast.Lambda)
OTHERS = (ast.Module, ast.arguments, ast.arg, ast.alias, ast.expr_context, ast.boolop, ast.operator, ast.unaryop,
          ast.cmpop)
TWO_UNDERSCORES = ("__init__", "__eq__", "__repr__", "__str__", "__len__")


def source_of(name):
    with open(os.path.join(PACKAGE, name), encoding="utf-8") as file:
        return file.read()


def trees():
    return [(name, ast.parse(source_of(name))) for name in FILES]


def is_docstring(node):
    return isinstance(node, ast.Expr) and isinstance(node.value, ast.Constant) and isinstance(node.value.value, str)


def is_plain(node):
    if isinstance(node, (ast.Tuple, ast.List)):
        return all(is_plain(part) for part in node.elts)
    if isinstance(node, ast.Dict):
        return all(is_plain(part) for part in node.keys + node.values)
    if isinstance(node, ast.UnaryOp):
        return isinstance(node.op, ast.USub) and is_plain(node.operand)
    return isinstance(node, ast.Constant) and isinstance(node.value, (int, str, type(None)))


def bound_names(tree):
    for node in ast.walk(tree):
        if isinstance(node, (ast.FunctionDef, ast.ClassDef)):
            yield node.name, node
        elif isinstance(node, ast.arg):
            yield node.arg, node
        elif isinstance(node, ast.Name) and isinstance(node.ctx, ast.Store):
            yield node.id, node


class Files(unittest.TestCase):
    def test_names(self):
        self.assertIn("__init__.py", FILES)
        for name in FILES:
            self.assertRegex(name, r"\A([a-z][a-z0-9_]*|__init__)\.py\Z")
            self.assertNotIn(name[:-3], dir(builtins))
            self.assertFalse(name.startswith("test") or name[:-3] in ("site", "conftest"), name)

    def test_signs_and_sizes(self):
        for name in FILES:
            text = source_of(name)
            rows = text.split("\n")
            self.assertTrue(all(sign == "\n" or " " <= sign <= "~" for sign in text), name)
            self.assertLessEqual(len(rows), 400, name)
            self.assertLessEqual(max(len(row) for row in rows), 120, name)

    def test_words_that_stand_nowhere(self):
        for name in FILES:
            text = source_of(name)
            for word in WORDS:
                self.assertIsNone(re.search(r"\b%s\b" % word, text), (name, word))
            self.assertIsNone(re.search("dataclass|overload|contextmanager", text), name)


class Tops(unittest.TestCase):
    def test_what_stands_at_the_top(self):
        for name, tree in trees():
            self.assertTrue(is_docstring(tree.body[0]), name)
            bound = []
            for node in tree.body[1:]:
                where = (name, node.lineno)
                if isinstance(node, ast.Assign):
                    self.assertTrue(is_plain(node.value), where)
                    self.assertIsInstance(node.targets[0], ast.Name, where)
                    bound.append(node.targets[0].id)
                elif isinstance(node, ast.ImportFrom):
                    bound.extend(alias.name for alias in node.names)
                else:
                    self.assertIsInstance(node, (ast.FunctionDef, ast.ClassDef), where)
                    bound.append(node.name)
            self.assertEqual(len(bound), len(set(bound)), name)

    def test_imports(self):
        drawn = {}
        for name, tree in trees():
            drawn[name[:-3]] = set()
            for node in ast.walk(tree):
                if isinstance(node, ast.ImportFrom):
                    self.assertIn(node, tree.body, name)
                    self.assertRegex(node.module, r"\Aamounttexts\.[a-z]+\Z")
                    file = node.module.split(".")[1]
                    drawn[name[:-3]].add(file)
                    top = ast.parse(source_of(file + ".py")).body
                    defined = [one.name for one in top if isinstance(one, (ast.FunctionDef, ast.ClassDef))]
                    defined += [one.targets[0].id for one in top if isinstance(one, ast.Assign)]
                    for alias in node.names:
                        self.assertIsNone(alias.asname)
                        self.assertIn(alias.name, defined, name)
        while drawn:
            free = [file for file in drawn if not drawn[file]]
            self.assertTrue(free, "files draw from one another")
            drawn = {file: drawn[file] - set(free) for file in drawn if file not in free}


class Inside(unittest.TestCase):
    def test_statements_and_expressions(self):
        for name, tree in trees():
            for node in ast.walk(tree):
                where = (name, getattr(node, "lineno", 0), type(node).__name__)
                self.assertIsInstance(node, STATEMENTS + EXPRESSIONS + OTHERS, where)
                if isinstance(node, ast.Expr):
                    self.assertTrue(isinstance(node.value, ast.Call) or node is tree.body[0], where)
                if isinstance(node, ast.Assign):
                    self.assertEqual(len(node.targets), 1, where)
                if isinstance(node, (ast.For, ast.While)):
                    self.assertEqual(node.orelse, [], where)
                if isinstance(node, ast.ListComp):
                    self.assertEqual(len(node.generators), 1, where)
                    self.assertLessEqual(len(node.generators[0].ifs), 1, where)
                if isinstance(node, ast.Constant):
                    self.assertIsInstance(node.value, (int, str, type(None)), where)
                    self.assertFalse(isinstance(node.value, str) and "%" in node.value, where)
                self.assertNotIsInstance(node, (ast.Div, ast.MatMult), where)
                if isinstance(node, ast.BinOp):
                    self.assertFalse(isinstance(node.op, ast.Pow), where)
                if isinstance(node, ast.Compare) and any(isinstance(op, (ast.Is, ast.IsNot)) for op in node.ops):
                    self.assertTrue(isinstance(node.comparators[0], ast.Constant), where)

    def test_defs(self):
        for name, tree in trees():
            for node in ast.walk(tree):
                if not isinstance(node, ast.FunctionDef):
                    continue
                where = (name, node.name)
                self.assertLessEqual(node.end_lineno - node.lineno + 1, 40, where)
                self.assertEqual(node.decorator_list, [], where)
                self.assertIsNone(node.args.vararg or node.args.kwarg, where)
                self.assertEqual(node.args.kwonlyargs + node.args.posonlyargs, [], where)
                self.assertFalse(is_docstring(node.body[0]), where)

    def test_classes(self):
        methods = {}
        held = {}
        for name, tree in trees():
            for node in ast.walk(tree):
                if isinstance(node, ast.ClassDef):
                    self.assertIn(node, tree.body, name)
                    self.assertTrue(all(isinstance(part, ast.FunctionDef) for part in node.body), (name, node.name))
                    own = [part.name for part in node.body]
                    self.assertEqual(len(own), len(set(own)), (name, node.name))
                    methods.update({one: name for one in own})
                elif isinstance(node, ast.Attribute) and isinstance(node.ctx, ast.Store):
                    held[node.attr] = name
        self.assertEqual(set(methods) & set(held), set())
        python = {one for kind in (str, int, list, dict, set, bytes, tuple) for one in dir(kind)}
        free = "count index title find get join lower upper split strip copy add".split()
        self.assertEqual([one for one in held if one in python and one not in free], [])
        self.assertEqual([one for one in methods if one in python and one not in METHODS + ["__init__"]], [])

    def test_names(self):
        for name, tree in trees():
            top = [node.name for node in tree.body if isinstance(node, ast.ClassDef)]
            for node in tree.body:
                if isinstance(node, ast.ImportFrom):
                    top.extend(alias.name for alias in node.names)
            for bound, node in bound_names(tree):
                where = (name, node.lineno, bound)
                self.assertTrue(bound in TWO_UNDERSCORES or re.fullmatch("[A-Za-z][A-Za-z0-9_]*", bound), where)
                self.assertFalse(bound in dir(builtins) or keyword.issoftkeyword(bound), where)
                if not isinstance(node, ast.ClassDef):
                    self.assertNotIn(bound, top, where)

    def test_names_of_pythons_own(self):
        for name, tree in trees():
            for node in ast.walk(tree):
                if isinstance(node, ast.Name) and node.id in dir(builtins):
                    self.assertIn(node.id, OWN_NAMES, (name, node.lineno))

    def test_methods(self):
        own = [node.name for _, tree in trees() for node in ast.walk(tree) if isinstance(node, ast.FunctionDef)]
        for name, tree in trees():
            for node in ast.walk(tree):
                if isinstance(node, ast.Call) and isinstance(node.func, ast.Attribute):
                    self.assertIn(node.func.attr, METHODS + own, (name, node.lineno))

    def test_lists_and_dicts_of_a_top_are_only_read(self):
        for name, tree in trees():
            tops = [node.targets[0].id for node in tree.body
                    if isinstance(node, ast.Assign) and isinstance(node.value, (ast.List, ast.Dict))]
            for node in ast.walk(tree):
                if isinstance(node, ast.Call) and isinstance(node.func, ast.Attribute):
                    if isinstance(node.func.value, ast.Name) and node.func.value.id in tops:
                        self.assertNotIn(node.func.attr, CHANGING, (name, node.lineno))
                if isinstance(node, ast.Subscript) and isinstance(node.ctx, ast.Store):
                    self.assertFalse(isinstance(node.value, ast.Name) and node.value.id in tops, (name, node.lineno))

    def test_walked_at_once(self):
        for name, tree in trees():
            walked = [node.iter for node in ast.walk(tree) if isinstance(node, (ast.For, ast.comprehension))]
            for node in ast.walk(tree):
                if isinstance(node, ast.Call):
                    called = node.func.id if isinstance(node.func, ast.Name) else getattr(node.func, "attr", "")
                    if called in WALKED:
                        self.assertIn(node, walked, (name, node.lineno))


if __name__ == "__main__":
    unittest.main()
