"""Whether the package keeps to the Python subset, as far as rows of code show it.

It looks for less than the subset allows: what the package does not need is refused here altogether.
"""

import ast
import builtins
import functools
import pathlib
import re
import unittest

PACKAGE = pathlib.Path(__file__).resolve().parent.parent / "reachkept"
FILES = sorted(PACKAGE.glob("*.py"))

STATEMENTS = (ast.Assign, ast.AugAssign, ast.If, ast.While, ast.For, ast.Return, ast.Break, ast.Continue, ast.Pass,
              ast.Raise, ast.Delete, ast.Expr, ast.FunctionDef, ast.ClassDef, ast.ImportFrom)
EXPRESSIONS = (ast.BoolOp, ast.BinOp, ast.UnaryOp, ast.IfExp, ast.Dict, ast.ListComp, ast.DictComp, ast.SetComp,
               ast.Compare, ast.Call, ast.Constant, ast.Attribute, ast.Subscript, ast.Name, ast.List, ast.Tuple,
               ast.Slice, ast.Set)
BUILTINS = ["len", "range", "enumerate", "zip", "min", "max", "sum", "abs", "sorted", "reversed", "int", "str", "bool",
            "list", "tuple", "dict", "set", "isinstance", "ord", "any", "all", "divmod"]
ERRORS = ["ValueError"]
METHODS = ["append", "clear", "copy", "count", "endswith", "extend", "find", "get", "index", "insert", "isalpha",
           "isdigit", "items", "join", "keys", "partition", "pop", "remove", "replace", "reverse", "setdefault", "split",
           "splitlines", "startswith", "strip", "update", "values"]
SPECIAL = ["__init__", "__eq__", "__len__"]
BARRED = ["register", "mro", "elements", "open", "input", "law", "version_info", "with_traceback", "add_note",
          "type", "typing", "enum", "property", "super", "eval", "exec", "exit", "dir", "vars", "id", "gc", "os",
          "sys", "compile", "globals", "locals", "help", "quit", "license", "copyright", "format"]
MODIFYING = ["append", "clear", "extend", "insert", "pop", "remove", "reverse", "setdefault", "update"]

# What values of Python's own have as methods, and which of these names attributes may have.
TAKEN = {key for thing in ("", 0, [], {}, set(), b"", (), range(1)) for key in dir(thing)}
FREE = ["count", "index", "title", "find", "get", "join", "lower", "upper", "split", "strip", "copy", "add"]


@functools.lru_cache
def trees():
    return [(path.name, ast.parse(path.read_text(encoding="ascii"))) for path in FILES]


def nodes():
    return [(name, node) for name, tree in trees() for node in ast.walk(tree)]


def bound(tree):
    """The names that a file binds at module level."""
    found = []
    for node in tree.body:
        if isinstance(node, (ast.FunctionDef, ast.ClassDef)):
            found.append(node.name)
        if isinstance(node, ast.ImportFrom):
            found.extend(alias.name for alias in node.names)
        if isinstance(node, ast.Assign):
            found.extend(target.id for target in node.targets)
    return found


def own_methods():
    return {inner.name for _, node in nodes() if isinstance(node, ast.ClassDef) for inner in node.body
            if isinstance(inner, ast.FunctionDef)}


class TestLanguage(unittest.TestCase):
    def test_there_is_something_to_look_at(self):
        self.assertGreater(len(FILES), 5)

    def test_sizes_and_signs(self):
        for path in FILES:
            text = path.read_text(encoding="ascii")
            self.assertTrue(text.endswith("\n") and not text.endswith("\n\n"), path.name)
            self.assertLessEqual(len(text.splitlines()), 399, path.name)
            for line in text.splitlines():
                self.assertLessEqual(len(line), 120, path.name)
                self.assertTrue(all(" " <= sign <= "~" for sign in line), (path.name, line))
                self.assertEqual(line, line.rstrip(), path.name)
        for name, node in nodes():
            if isinstance(node, ast.FunctionDef):
                self.assertLessEqual(node.end_lineno - node.lineno + 1, 40, (name, node.name))

    def test_statements_and_expressions(self):
        for name, node in nodes():
            if isinstance(node, ast.stmt):
                self.assertIsInstance(node, STATEMENTS, (name, node.lineno))
            if isinstance(node, ast.expr):
                self.assertIsInstance(node, EXPRESSIONS, (name, node.lineno))

    def test_functions_are_plain(self):
        for name, tree in trees():
            for node in ast.walk(tree):
                if isinstance(node, (ast.FunctionDef, ast.ClassDef)):
                    self.assertEqual(node.decorator_list, [], (name, node.name))
                if isinstance(node, ast.FunctionDef):
                    given = node.args
                    self.assertEqual((given.vararg, given.kwarg, given.kwonlyargs, given.posonlyargs),
                                     (None, None, [], []), (name, node.name))
                    for inner in ast.walk(node):
                        self.assertFalse(inner is not node and isinstance(inner, (ast.FunctionDef, ast.ClassDef)))
            for node in tree.body:
                self.assertIsInstance(node, (ast.FunctionDef, ast.ClassDef, ast.ImportFrom, ast.Assign, ast.Expr))
                if isinstance(node, ast.Expr):
                    self.assertIsInstance(node.value, ast.Constant)

    def test_imports(self):
        edges = {}
        for name, tree in trees():
            edges[name] = []
            others = [node for node in tree.body if not isinstance(node, ast.ImportFrom)]
            for node in ast.walk(tree):
                if isinstance(node, ast.ImportFrom):
                    self.assertEqual(node.level, 0)
                    if node.module == "heapq":
                        self.assertEqual({alias.name for alias in node.names} - {"heappush", "heappop"}, set(), name)
                        continue
                    self.assertTrue(node.module.startswith("reachkept."), (name, node.module))
                    self.assertTrue(all(node.lineno < other.lineno for other in others[1:]), name)
                    home = node.module.split(".")[1] + ".py"
                    edges[name].append(home)
                    there = dict(trees())[home]
                    defined = [inner.name for inner in there.body
                               if isinstance(inner, (ast.FunctionDef, ast.ClassDef))]
                    defined += [target.id for inner in there.body if isinstance(inner, ast.Assign)
                                for target in inner.targets]
                    for alias in node.names:
                        self.assertIsNone(alias.asname)
                        self.assertIn(alias.name, defined, (name, node.module))
        for name in edges:
            waiting, seen = list(edges[name]), []
            while waiting:
                other = waiting.pop()
                self.assertNotEqual(other, name, "imports lead back")
                if other not in seen:
                    seen.append(other)
                    waiting.extend(edges[other])

    def test_each_name_is_bound_once_and_used(self):
        for name, tree in trees():
            names = bound(tree)
            self.assertEqual(len(names), len(set(names)), name)
            used = {node.id for node in ast.walk(tree) if isinstance(node, ast.Name)}
            for node in tree.body:
                if isinstance(node, ast.ImportFrom):
                    for alias in node.names:
                        self.assertIn(alias.name, used, name)

    def test_names(self):
        for name, tree in trees():
            barred = {alias.name for node in tree.body if isinstance(node, ast.ImportFrom) for alias in node.names}
            barred |= set(bound(tree))
            barred |= {key for key in dir(builtins)}
            for node in ast.walk(tree):
                if isinstance(node, ast.FunctionDef):
                    local = {argument.arg for argument in node.args.args}
                    local |= {inner.id for inner in ast.walk(node)
                              if isinstance(inner, ast.Name) and isinstance(inner.ctx, ast.Store)}
                    self.assertEqual(local & barred, set(), (name, node.name))
                    self.assertEqual(local & set(BARRED), set(), (name, node.name))
                    if node.name.startswith("__"):
                        self.assertIn(node.name, SPECIAL, name)
                    self.assertNotIn(node.name, BARRED + BUILTINS, name)
                if isinstance(node, ast.Attribute):
                    self.assertNotIn(node.attr, BARRED, name)
                    if node.attr.startswith("__"):
                        self.assertEqual(node.attr, "__init__", name)
                if isinstance(node, ast.Name) and isinstance(node.ctx, ast.Load) and node.id in dir(builtins):
                    self.assertIn(node.id, BUILTINS + ERRORS + ["super"], (name, node.lineno))
                if isinstance(node, ast.Name) and node.id == "_":
                    self.assertIsInstance(node.ctx, ast.Store, (name, node.lineno))

    def test_names_that_the_language_bars(self):
        begins = ("_wall", "_pe_", "_dcw_", "_enum_", "_cm_", "_twin_re_", "_lay_", "_law_", "_stub_", "_sre", "_WallAttr", "__")
        whole = ("_cold", "_tuplegetter", "_outside", "_record", "_written_out", "_member_names")
        for name, node in nodes():
            found = []
            if isinstance(node, (ast.FunctionDef, ast.ClassDef)):
                found.append(node.name)
            if isinstance(node, ast.Name):
                found.append(node.id)
            if isinstance(node, ast.arg):
                found.append(node.arg)
            if isinstance(node, ast.Attribute):
                found.append(node.attr)
            for one in found:
                if one not in SPECIAL:
                    self.assertFalse(one.startswith(begins), (name, one))
                    self.assertNotIn(one.rstrip("0123456789_"), whole, (name, one))

    def test_words_that_the_language_bars(self):
        barred = ["type", "typing", "typing_extensions", "enum", "Enum", "IntEnum", "StrEnum", "Flag", "IntFlag", "Generic", "Protocol", "ABC", "ABCMeta",
                  "namedtuple", "NamedTuple", "TypedDict", "TYPE_CHECKING", "abstractmethod", "dataclass", "overload", "contextmanager"]
        for path in FILES:
            words = set(re.findall("[A-Za-z_]+", path.read_text(encoding="ascii")))
            self.assertEqual(words & set(barred), set(), path.name)

    def test_lists_and_dicts_at_module_level_are_only_read(self):
        kept = {}
        for name, tree in trees():
            kept[name[:-3]] = [node.targets[0].id for node in tree.body if isinstance(node, ast.Assign)
                               and isinstance(node.value, (ast.Dict, ast.List))]
        for name, tree in trees():
            own = list(kept[name[:-3]])
            for node in tree.body:
                if isinstance(node, ast.ImportFrom) and node.module.startswith("reachkept."):
                    own += [alias.name for alias in node.names if alias.name in kept[node.module.split(".")[1]]]
            allowed = []
            for node in ast.walk(tree):
                if isinstance(node, ast.Subscript):
                    allowed.append(node.value)
                if isinstance(node, ast.Call) and isinstance(node.func, ast.Attribute):
                    if node.func.attr in ("get", "items", "keys", "values", "index", "count"):
                        allowed.append(node.func.value)
                if isinstance(node, ast.Call) and isinstance(node.func, ast.Name):
                    if node.func.id in ("len", "list", "dict", "sorted", "tuple"):
                        allowed.extend(node.args)
                if isinstance(node, ast.Compare):
                    allowed.extend(node.comparators)
                if isinstance(node, (ast.For, ast.comprehension)):
                    allowed.append(node.iter)
            for node in ast.walk(tree):
                if isinstance(node, ast.Name) and isinstance(node.ctx, ast.Load) and node.id in own:
                    self.assertIn(node, allowed, (name, node.lineno, node.id))
                if isinstance(node, ast.Subscript) and isinstance(node.value, ast.Name) and node.value.id in own:
                    self.assertIsInstance(node.ctx, ast.Load, (name, node.lineno))

    def test_super_is_called_for_a_method_in_a_method(self):
        for name, tree in trees():
            allowed = []
            for home in [node for node in tree.body if isinstance(node, ast.ClassDef)]:
                for method in [node for node in home.body if isinstance(node, ast.FunctionDef)]:
                    for node in ast.walk(method):
                        if isinstance(node, ast.Call) and isinstance(node.func, ast.Attribute):
                            inner = node.func.value
                            if isinstance(inner, ast.Call) and isinstance(inner.func, ast.Name) and not inner.args:
                                if not node.func.attr.startswith("__") or node.func.attr == method.name == "__init__":
                                    allowed.append(inner.func)
            for node in ast.walk(tree):
                if isinstance(node, ast.Name) and node.id == "super":
                    self.assertIn(node, allowed, (name, node.lineno))

    def test_classes_and_builtins_are_called_where_they_stand(self):
        for name, tree in trees():
            allowed = []
            for node in ast.walk(tree):
                if isinstance(node, ast.Call):
                    allowed.append(node.func)
                    if isinstance(node.func, ast.Name) and node.func.id == "isinstance":
                        kinds = node.args[1]
                        allowed.extend(kinds.elts if isinstance(kinds, ast.Tuple) else [kinds])
                    if isinstance(node.func, ast.Name) and node.func.id in BUILTINS:
                        self.assertEqual([key.arg for key in node.keywords if key.arg not in ("key", "reverse")], [])
                if isinstance(node, ast.ClassDef):
                    allowed.extend(node.bases)
                if isinstance(node, ast.Attribute) and node.attr == "__init__":
                    allowed.append(node.value)
            for node in ast.walk(tree):
                if isinstance(node, ast.Name) and (node.id in BUILTINS + ERRORS or node.id[:1].isupper()
                                                   and not node.id.isupper()):
                    self.assertIn(node, allowed, (name, node.lineno, node.id))

    def test_methods(self):
        own = own_methods()
        found = nodes()
        for name, node in found:
            if isinstance(node, ast.Call) and isinstance(node.func, ast.Attribute):
                self.assertIn(node.func.attr, [*METHODS, *own], (name, node.lineno))
            if isinstance(node, ast.Attribute) and isinstance(node.ctx, ast.Store):
                self.assertNotIn(node.attr, own, (name, node.lineno))
                self.assertFalse(node.attr in TAKEN and node.attr not in FREE, (name, node.lineno))
        assigned = {node.attr for _, node in found
                    if isinstance(node, ast.Attribute) and isinstance(node.ctx, ast.Store)}
        called = [node.func for _, node in found if isinstance(node, ast.Call)]
        for name, node in found:
            if isinstance(node, ast.Attribute) and node not in called and node.attr != "__init__":
                self.assertIn(node.attr, assigned, (name, node.lineno))

    def test_sets_and_views_are_used_at_once(self):
        for name, tree in trees():
            allowed = []
            for node in ast.walk(tree):
                if isinstance(node, ast.Call) and isinstance(node.func, ast.Name):
                    if node.func.id in ("sorted", "len", "list", "tuple", "dict", "min", "max", "sum"):
                        allowed.extend(node.args)
                    if node.func.id == "reversed":
                        allowed.extend(one for one in node.args if isinstance(one, ast.Call)
                                       and isinstance(one.func, ast.Name) and one.func.id == "range")
                if isinstance(node, (ast.For, ast.comprehension)):
                    allowed.append(node.iter)
            for node in ast.walk(tree):
                if isinstance(node, ast.Call) and isinstance(node.func, ast.Name):
                    if node.func.id in ("set", "zip", "enumerate", "reversed", "range"):
                        self.assertIn(node, allowed, (name, node.lineno))
                if isinstance(node, ast.Call) and isinstance(node.func, ast.Attribute):
                    if node.func.attr in ("items", "values", "keys"):
                        self.assertIn(node, allowed, (name, node.lineno))
                if isinstance(node, (ast.SetComp, ast.Set)):
                    self.assertIn(node, allowed, (name, node.lineno))

    def test_what_a_loop_goes_over_is_not_changed_in_it(self):
        for name, node in nodes():
            if isinstance(node, ast.For):
                over = {ast.unparse(inner) for inner in ast.walk(node.iter)
                        if isinstance(inner, (ast.Name, ast.Attribute))}
                for inner in [part for row in node.body for part in ast.walk(row)]:
                    if isinstance(inner, ast.Call) and isinstance(inner.func, ast.Attribute):
                        if inner.func.attr in MODIFYING:
                            self.assertNotIn(ast.unparse(inner.func.value), over, (name, inner.lineno))
                    if isinstance(inner, ast.Subscript) and not isinstance(inner.ctx, ast.Load):
                        self.assertNotIn(ast.unparse(inner.value), over, (name, inner.lineno))

    def test_is_stands_beside_none_and_truths(self):
        for name, node in nodes():
            if isinstance(node, ast.Compare):
                for op, other in zip(node.ops, node.comparators):
                    if isinstance(op, (ast.Is, ast.IsNot)):
                        self.assertIsInstance(other, ast.Constant, (name, node.lineno))

    def test_strings(self):
        for name, tree in trees():
            docs = [node.body[0].value for node in ast.walk(tree)
                    if isinstance(node, (ast.Module, ast.ClassDef, ast.FunctionDef))
                    and isinstance(node.body[0], ast.Expr) and isinstance(node.body[0].value, ast.Constant)]
            for node in ast.walk(tree):
                if isinstance(node, ast.Constant) and isinstance(node.value, str):
                    self.assertNotIn("%", node.value, (name, node.lineno))
                    self.assertFalse(node.value.startswith("__"))
                    if node not in docs:
                        self.assertNotIn(node.value, ["enum", "typing"], (name, node.lineno))
                if isinstance(node, ast.Constant):
                    self.assertNotIsInstance(node.value, (float, complex, bytes))
                if isinstance(node, ast.BinOp):
                    self.assertNotIsInstance(node.op, (ast.Div, ast.MatMult))

    def test_calls_pass_what_functions_take(self):
        many = {}
        for _, tree in trees():
            for node in tree.body:
                if isinstance(node, ast.FunctionDef):
                    most = len(node.args.args)
                    many.setdefault(node.name, []).append((most - len(node.args.defaults), most))
        for name, node in nodes():
            if isinstance(node, ast.Call) and isinstance(node.func, ast.Name) and node.func.id in many:
                passed = len(node.args) + len(node.keywords)
                self.assertTrue(any(least <= passed <= most for least, most in many[node.func.id]),
                                (name, node.lineno))


if __name__ == "__main__":
    unittest.main()
