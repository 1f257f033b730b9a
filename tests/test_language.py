"""The files of the package against the rules of the language, as far as a look at the syntax can tell them.

The checks are narrower than the rules in places: what the package does not need is not let.
"""

import ast
import builtins
import os
import unittest

PACKAGE = os.path.join(os.path.dirname(os.path.dirname(os.path.abspath(__file__))), "asneverbegun")
CALLED = set(
    "len range enumerate zip min max sum abs sorted reversed int str bool list tuple dict set isinstance ord repr any all "
    "divmod".split()
)
NAMED = CALLED | {"ValueError", "KeyError", "IndexError", "TypeError", "super", "classmethod", "property", "Exception"}
AT_ONCE = {"range", "enumerate", "zip", "reversed"}
TAKERS = {"list", "tuple", "dict", "sorted", "sum", "any", "all", "enumerate", "zip", "min", "max"}
METHODS = set(
    "append clear copy count endswith extend find get index insert isalnum isalpha isdigit islower isspace isupper items "
    "join keys ljust lower lstrip partition pop remove replace reverse rfind rjust rpartition rsplit rstrip setdefault "
    "split splitlines startswith strip update upper values zfill bit_length".split()
)
BARRED = set(
    "register mro elements open input law version_info with_traceback add_note attrgetter breakpoint builtins compile "
    "copyright delattr dir eval exec exit gc getattr globals hasattr help id importlib license locals methodcaller os quit "
    "setattr type vars sys typing typing_extensions enum Enum IntEnum StrEnum Flag IntFlag Generic Protocol ABC ABCMeta "
    "namedtuple NamedTuple TypedDict TYPE_CHECKING abstractmethod dataclass overload contextmanager iter next map".split()
)
DOUBLE = {"__init__", "__eq__", "__str__", "__len__"}
NODES = (
    ast.Module, ast.Expr, ast.Constant, ast.ImportFrom, ast.alias, ast.FunctionDef, ast.ClassDef, ast.arguments, ast.arg,
    ast.Return, ast.If, ast.For, ast.While, ast.Break, ast.Continue, ast.Pass, ast.Raise, ast.Try, ast.ExceptHandler,
    ast.Assign, ast.AugAssign, ast.Name, ast.Attribute, ast.Subscript, ast.Slice, ast.Call, ast.keyword, ast.Compare,
    ast.BoolOp, ast.UnaryOp, ast.BinOp, ast.IfExp, ast.Tuple, ast.List, ast.Dict, ast.ListComp, ast.DictComp,
    ast.comprehension, ast.Starred, ast.JoinedStr, ast.FormattedValue, ast.Load, ast.Store, ast.And, ast.Or, ast.Not,
    ast.USub, ast.Add, ast.Sub, ast.Mult, ast.FloorDiv, ast.Mod, ast.Pow, ast.LShift, ast.RShift, ast.BitAnd, ast.BitOr, ast.Eq,
    ast.NotEq, ast.Lt, ast.LtE, ast.Gt, ast.GtE, ast.In, ast.NotIn, ast.Is, ast.IsNot,
)


def read_all():
    rows = {}
    for name in sorted(os.listdir(PACKAGE)):
        if name != "__pycache__":
            with open(os.path.join(PACKAGE, name), encoding="utf-8") as file:
                rows[name] = file.read()
    return rows


class LanguageTest(unittest.TestCase):
    def setUp(self):
        self.texts = read_all()
        self.trees = {name: ast.parse(text) for name, text in self.texts.items()}
        for tree in self.trees.values():
            for node in ast.walk(tree):
                for child in ast.iter_child_nodes(node):
                    child.parent = node

    def each(self, *kinds):
        for name, tree in self.trees.items():
            for node in ast.walk(tree):
                if isinstance(node, kinds):
                    yield "%s:%d" % (name, getattr(node, "lineno", 0)), node

    def test_files(self):
        for name, text in self.texts.items():
            self.assertRegex(name, r"^[a-z][a-z0-9]*\.py$|^__init__\.py$")
            lines = text.split("\n")
            self.assertLessEqual(len(lines), 400, name)
            for at, line in enumerate(lines):
                self.assertLessEqual(len(line), 120, "%s:%d" % (name, at + 1))
                self.assertEqual(line, line.rstrip(), "%s:%d" % (name, at + 1))
            self.assertTrue(all(char == "\n" or " " <= char <= "~" for char in text), name)
            self.assertNotIn(name[:-3], dir(builtins))
        self.assertIsInstance(ast.parse(self.texts["__init__.py"]).body[0].value.value, str)
        self.assertEqual(len(self.trees["__init__.py"].body), 1)

    def test_kinds_of_syntax(self):
        for place, node in self.each(ast.AST):
            if not isinstance(node, NODES):
                self.fail("%s: %s" % (place, type(node).__name__))

    def test_module_level(self):
        for name, tree in self.trees.items():
            bound = []
            for node in tree.body:
                if isinstance(node, ast.Assign):
                    self.assertEqual(len(node.targets), 1)
                    if isinstance(node.value, ast.Dict) and isinstance(node.value.values[0], ast.Name):
                        # A table of functions that are defined above.
                        self.assertTrue({row.id for row in node.value.values} <= set(bound), name)
                        self.assertTrue(all(isinstance(row, ast.Constant) for row in node.value.keys), name)
                    else:
                        ast.literal_eval(node.value)
                    bound.append(node.targets[0].id)
                elif isinstance(node, ast.ImportFrom):
                    bound += [alias.name for alias in node.names]
                elif isinstance(node, (ast.FunctionDef, ast.ClassDef)):
                    bound.append(node.name)
                else:
                    self.assertIsInstance(node.value.value, str, name)
                    self.assertIs(node, tree.body[0])
            self.assertEqual(len(bound), len(set(bound)), name)

    def test_imports(self):
        needs = {}
        for name, tree in self.trees.items():
            needs[name] = set()
            used = {node.id for node in ast.walk(tree) if isinstance(node, ast.Name)}
            for node in ast.walk(tree):
                if isinstance(node, ast.ImportFrom):
                    self.assertEqual(node.level, 0)
                    self.assertTrue(node.module.startswith("asneverbegun."), name)
                    other = node.module.split(".")[1] + ".py"
                    needs[name].add(other)
                    there = self.trees[other].body
                    defined = [row.name for row in there if isinstance(row, (ast.FunctionDef, ast.ClassDef))]
                    defined += [row.targets[0].id for row in there if isinstance(row, ast.Assign)]
                    for alias in node.names:
                        self.assertIsNone(alias.asname)
                        self.assertIn(alias.name, defined)
                        self.assertIn(alias.name, used, "%s imports it for nothing" % name)
        while needs:
            free = [name for name in needs if not needs[name] & set(needs)]
            self.assertTrue(free, "files import from each other: %s" % sorted(needs))
            for name in free:
                del needs[name]

    def test_functions_and_classes(self):
        for place, node in self.each(ast.FunctionDef):
            self.assertLessEqual(node.end_lineno - node.lineno + 1, 40, place)
            inside = isinstance(node.parent, ast.ClassDef)
            self.assertTrue(inside or isinstance(node.parent, ast.Module), place)
            for row in node.decorator_list:
                self.assertIn((inside, row.id), ((True, "classmethod"), (True, "property")), place)
            for default in node.args.defaults:
                self.assertIsInstance(default, (ast.Constant, ast.Tuple, ast.Name), place)
        for place, node in self.each(ast.ClassDef):
            self.assertRegex(node.name, "^[A-Z]", place)
            self.assertEqual(node.decorator_list, [], place)
            self.assertIsInstance(node.parent, ast.Module, place)
            for row in node.body:
                is_text = isinstance(row, ast.Expr) and isinstance(row.value, ast.Constant)
                self.assertTrue(is_text or isinstance(row, ast.FunctionDef), place)

    def test_each_function_and_class_tells_what_it_is_for(self):
        for place, node in self.each(ast.FunctionDef, ast.ClassDef):
            if not node.name.startswith("_"):
                self.assertTrue(ast.get_docstring(node), place)

    def own_names(self):
        """All names that are bound, with their places: functions, classes, parameters and variables."""
        for place, node in self.each(ast.FunctionDef, ast.ClassDef, ast.arg, ast.Name):
            if isinstance(node, ast.Name):
                if isinstance(node.ctx, ast.Store):
                    yield place, node.id, node
            else:
                yield place, node.arg if isinstance(node, ast.arg) else node.name, node

    def test_names(self):
        for place, name, node in self.own_names():
            is_method = isinstance(node, ast.FunctionDef) and isinstance(node.parent, ast.ClassDef)
            self.assertRegex(name, r"^_?[A-Za-z][A-Za-z0-9_]*$|^__[a-z]+__$|^_$", place)
            self.assertNotIn(name, BARRED, place)
            if not is_method:
                self.assertNotIn(name, dir(builtins), place)
                self.assertFalse(name.startswith("__"), place)
            elif name.startswith("__"):
                self.assertIn(name, DOUBLE, place)
        for place, node in self.each(ast.Name):
            if isinstance(node.ctx, ast.Load):
                self.assertNotEqual(node.id, "_", place)
                if node.id in dir(builtins):
                    self.assertIn(node.id, NAMED, place)
        for name, text in self.texts.items():
            self.assertNotIn("_wall", text.lower().replace("_wallet", ""), name)

    def test_no_local_name_is_that_of_a_class_or_an_import(self):
        for name, tree in self.trees.items():
            outer = {alias.name for node in ast.walk(tree) if isinstance(node, ast.ImportFrom) for alias in node.names}
            outer |= {node.name for node in ast.walk(tree) if isinstance(node, ast.ClassDef)}
            for node in ast.walk(tree):
                if isinstance(node, ast.FunctionDef):
                    for inner in ast.walk(node):
                        if isinstance(inner, ast.arg):
                            self.assertNotIn(inner.arg, outer, "%s:%d" % (name, inner.lineno))
                        if isinstance(inner, ast.Name) and isinstance(inner.ctx, ast.Store):
                            self.assertNotIn(inner.id, outer, "%s:%d" % (name, inner.lineno))

    def properties(self):
        return [node for _, node in self.each(ast.FunctionDef) if [row.id for row in node.decorator_list] == ["property"]]

    def test_properties(self):
        methods, attributes = self.members()
        for node in self.properties():
            self.assertNotIn(node.name, methods | attributes)
            self.assertEqual(len(node.body), 2)
            value = node.body[-1].value
            self.assertEqual((value.value.id, value.attr), ("self", "_" + node.name))

    def test_what_is_kept_at_last(self):
        for place, node in self.each(ast.Try):
            for row in node.finalbody:
                self.assertIsInstance(row, ast.Assign, place)
                for there in ast.walk(row):
                    self.assertIsInstance(there, (ast.Assign, ast.Tuple, ast.Name, ast.Attribute, ast.Load, ast.Store), place)

    def members(self):
        """The names of all methods (but properties) and of all attributes that are assigned."""
        methods, attributes = set(), set()
        properties = self.properties()
        for _, node in self.each(ast.ClassDef):
            methods |= {row.name for row in node.body if isinstance(row, ast.FunctionDef) and row not in properties}
        for place, node in self.each(ast.Attribute):
            if isinstance(node.ctx, ast.Store):
                self.assertIsInstance(node.value, ast.Name, place)
                attributes.add(node.attr)
        return methods, attributes

    def test_methods_and_attributes(self):
        methods, attributes = self.members()
        self.assertEqual(methods & attributes, set())
        values = set().union(*[dir(value) for value in ("", 0, [], {}, set(), b"")])
        self.assertEqual((methods | attributes) & values - DOUBLE, set())
        self.assertEqual((methods | attributes) & BARRED, set())
        attributes |= {node.name for node in self.properties()}
        for place, node in self.each(ast.Attribute):
            is_called = isinstance(node.parent, ast.Call) and node.parent.func is node
            if isinstance(node.ctx, ast.Load):
                self.assertIn(node.attr, (methods | METHODS | {"__init__"}) if is_called else attributes | methods, place)
                if not is_called and node.attr in methods:
                    self.fail("%s: a method is not called" % place)

    def test_calls(self):
        own = {name for _, name, node in self.own_names() if not isinstance(node, ast.ClassDef)}
        for place, node in self.each(ast.Call):
            if isinstance(node.func, ast.Name):
                name = node.func.id
                if name in dir(builtins):
                    self.assertIn(name, NAMED, place)
                    for row in node.keywords:
                        self.assertEqual((name, row.arg, getattr(row.value, "id", None)), ("sorted", "key", "len"), place)
                if name in AT_ONCE:
                    parent = node.parent
                    at_once = isinstance(parent, (ast.For, ast.comprehension)) and parent.iter is node
                    taken = isinstance(parent, ast.Call) and isinstance(parent.func, ast.Name) and parent.func.id in TAKERS
                    asked = isinstance(parent, ast.Compare)and name == "range"
                    self.assertTrue(at_once or taken or asked, place)
                if name == "set":
                    parent = node.parent
                    self.assertIsInstance(parent, ast.Call, place)
                    self.assertIn(parent.func.id, ("len", "sorted"), place)
            for row in node.args:
                if isinstance(row, ast.Starred):
                    self.assertIsInstance(row.value, ast.Name, place)
                    self.assertIs(row, node.args[-1], place)
                    self.assertNotIn(node.func.id, dir(builtins), place)
        self.assertIn("play", own)

    def test_builtins_are_called_and_not_passed_on(self):
        for place, node in self.each(ast.Name):
            if node.id in CALLED and isinstance(node.ctx, ast.Load):
                parent = node.parent
                if isinstance(parent, (ast.Tuple, ast.keyword)):
                    parent = parent.parent
                self.assertIsInstance(parent, ast.Call, place)
                is_kind = isinstance(parent.func, ast.Name) and parent.func.id == "isinstance"
                is_key = isinstance(node.parent, ast.keyword) and node.id == "len"
                self.assertTrue(parent.func is node or is_kind or is_key, place)

    def test_strings(self):
        for place, node in self.each(ast.Constant):
            self.assertNotIsInstance(node.value, (float, bytes, complex), place)
            if isinstance(node.value, str):
                is_doc = isinstance(node.parent, ast.Expr)
                self.assertNotIn("%", node.value, place)
                if not is_doc:
                    for word in node.value.replace("(", " ").split():
                        self.assertNotIn(word, BARRED - {"open", "input", "law", "next", "iter", "map"}, place)
        for name, text in self.texts.items():
            for at, char in enumerate(text):
                if char == "\\":
                    self.assertIn(text[at + 1], 'n"\\', name)

    def test_exponents(self):
        for place, node in self.each(ast.BinOp):
            if isinstance(node.op, ast.Pow):
                self.assertIn(node.right.value, range(65), place)

    def test_is(self):
        for place, node in self.each(ast.Compare):
            for sign, other in zip(node.ops, node.comparators):
                if isinstance(sign, (ast.Is, ast.IsNot)):
                    self.assertIn(getattr(other, "value", 0), (None, True, False), place)

    def test_errors(self):
        own = {node.name for _, node in self.each(ast.ClassDef)}
        for place, node in self.each(ast.Raise):
            self.assertIsNone(node.cause, place)
            self.assertIn(node.exc.func.id, own, place)
        for place, node in self.each(ast.ExceptHandler):
            self.assertIn(node.type.id, own | {"KeyError"}, place)
            if node.name is not None:
                for row in ast.walk(node):
                    if isinstance(row, ast.Name) and row.id == node.name:
                        self.assertEqual(row.parent.attr, "at", place)

    def test_what_is_iterated_over_is_not_changed(self):
        for place, node in self.each(ast.For):
            over = ast.unparse(node.iter)
            for inner in ast.walk(ast.Module(body=node.body, type_ignores=[])):
                if isinstance(inner, ast.Call) and isinstance(inner.func, ast.Attribute):
                    if inner.func.attr in ("append", "extend", "pop", "setdefault", "insert", "remove", "clear", "update"):
                        if isinstance(inner.func.value, ast.Name):
                            names = {row.id for row in ast.walk(node.iter) if isinstance(row, ast.Name)}
                            self.assertNotIn(inner.func.value.id, names, place)
                        if isinstance(inner.func.value, ast.Attribute):
                            self.assertNotIn("." + inner.func.value.attr, over, place)
                if isinstance(inner, ast.Subscript) and isinstance(inner.ctx, ast.Store):
                    self.assertNotEqual(ast.unparse(inner.value), over, place)

    def test_special_methods(self):
        for place, node in self.each(ast.FunctionDef):
            if node.name in ("__str__", "__len__"):
                self.assertIsInstance(node.body[-1], ast.Return, place)
            if node.name == "__len__":
                self.assertEqual(node.body[-1].value.func.id, "len", place)
            if node.name == "__str__":
                value = node.body[-1].value
                is_join = isinstance(value, ast.Call) and value.func.attr == "join"
                self.assertTrue(is_join or isinstance(value, ast.JoinedStr), place)


if __name__ == "__main__":
    unittest.main()
