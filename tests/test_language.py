"""Holds the package to those rules of its narrow part of Python that can be seen in the syntax tree."""

import ast
import builtins
import functools
import pathlib
import re
import unittest

PACKAGE = pathlib.Path(__file__).resolve().parent.parent / "braemantle"

OWN_NAMES = set(
    "len range enumerate zip min max sum abs sorted reversed int str bool bytes list tuple dict set isinstance ord "
    "repr any all divmod Exception ValueError TypeError KeyError IndexError LookupError ZeroDivisionError "
    "ArithmeticError OverflowError RuntimeError NotImplementedError StopIteration".split())
OWN_METHODS = set(
    "append clear copy count endswith extend find get index insert isalnum isalpha isdigit islower isspace isupper "
    "items join keys ljust lower lstrip partition pop remove replace reverse rfind rjust rpartition rsplit rstrip "
    "setdefault split splitlines startswith strip update upper values zfill bit_length add discard".split())
UNUSED_NAMES = set("register mro elements open input id dir vars type help exit super getattr setattr os sys".split())
UNUSED_WORDS = re.compile(
    r"\b(type|typing|typing_extensions|enum|Enum|IntEnum|StrEnum|Flag|IntFlag|Generic|Protocol|ABC|ABCMeta"
    r"|namedtuple|NamedTuple|TypedDict|TYPE_CHECKING|abstractmethod)\b|dataclass|overload|contextmanager")
TWO_UNDERSCORES = {"__init__", "__eq__", "__repr__", "__str__", "__len__"}
LET = (
    ast.Module, ast.Expr, ast.ImportFrom, ast.alias, ast.FunctionDef, ast.ClassDef, ast.arguments, ast.arg,
    ast.Assign, ast.AugAssign, ast.If, ast.While, ast.For, ast.Return, ast.Break, ast.Continue, ast.Pass, ast.Raise,
    ast.Try, ast.ExceptHandler, ast.Assert, ast.Delete, ast.Constant, ast.Name, ast.Attribute, ast.Subscript,
    ast.Slice, ast.Call, ast.keyword, ast.List, ast.Tuple, ast.Dict, ast.Set, ast.ListComp, ast.DictComp,
    ast.SetComp, ast.comprehension, ast.IfExp, ast.BoolOp, ast.BinOp, ast.UnaryOp, ast.Compare, ast.Lambda,
    ast.JoinedStr, ast.FormattedValue, ast.Starred, ast.expr_context, ast.boolop, ast.operator, ast.unaryop,
    ast.cmpop)
WALKED = {"zip", "enumerate", "reversed", "range"}
WALKERS = {"list", "tuple", "dict", "sorted", "sum", "any", "all", "enumerate", "zip", "min", "max", "join"}


def files():
    return sorted(path for path in PACKAGE.rglob("*") if "__pycache__" not in path.parts)


@functools.lru_cache(maxsize=None)
def trees():
    return [(path, ast.parse(path.read_text("ascii"))) for path in files()]


def nodes(*kinds):
    return [(f"{path.name}:{getattr(node, 'lineno', 0)}", node)
            for path, tree in trees() for node in ast.walk(tree) if isinstance(node, kinds)]


def bound(tree):
    """Every name that a file binds anywhere: defs, classes, imports, parameters, locals."""
    for node in ast.walk(tree):
        if isinstance(node, (ast.FunctionDef, ast.ClassDef)):
            yield node.name, node
        elif isinstance(node, ast.arg):
            yield node.arg, node
        elif isinstance(node, ast.Name) and not isinstance(node.ctx, ast.Load):
            yield node.id, node
        elif isinstance(node, ast.alias):
            yield node.asname or node.name, node


def called(node):
    if isinstance(node, ast.Call) and isinstance(node.func, ast.Name):
        return node.func.id
    if isinstance(node, ast.Call) and isinstance(node.func, ast.Attribute):
        return node.func.attr
    return None


@functools.lru_cache(maxsize=None)
def parted():
    """For each node of the package the one that it stands in."""
    return {child: node for _, node in nodes(ast.AST) for child in ast.iter_child_nodes(node)}


def takes(args, own):
    """The least and the greatest number of things by place, the names that may be handed in, and those that must."""
    names = [each.arg for each in args.args][1 if own else 0:]
    alone = [each.arg for each in args.kwonlyargs]
    must = names[:len(names) - len(args.defaults)]
    must += [name for name, default in zip(alone, args.kw_defaults) if default is None]
    return names, set(names + alone), set(must)


class FilesTest(unittest.TestCase):
    def test_plain_files(self):
        self.assertIn(PACKAGE / "__init__.py", files())
        for path in files():
            self.assertRegex(path.name, r"^(__init__|__main__|[a-z][a-z0-9_]*)\.py$")

    def test_signs_and_sizes(self):
        for path in files():
            lines = path.read_text("ascii").split("\n")
            self.assertLessEqual(len(lines), 400, path.name)
            for number, line in enumerate(lines, 1):
                self.assertRegex(line, r"^[ -~]{0,120}$", f"{path.name}:{number}")
                self.assertIsNone(UNUSED_WORDS.search(line), f"{path.name}:{number}")
        for where, node in nodes(ast.FunctionDef):
            self.assertLessEqual(node.end_lineno - node.lineno + 1, 40, where)


class FormTest(unittest.TestCase):
    def test_kinds_of_nodes(self):
        for where, node in nodes(ast.AST):
            self.assertIsInstance(node, LET, where)
            self.assertNotIsInstance(node, (ast.Div, ast.MatMult), where)
        for where, node in nodes(ast.For, ast.While):
            self.assertEqual(node.orelse, [], where)

    def test_top_of_files(self):
        for path, tree in trees():
            for node in tree.body:
                self.assertIsInstance(node, (ast.Expr, ast.ImportFrom, ast.FunctionDef, ast.ClassDef, ast.Assign))
                if isinstance(node, ast.Expr):
                    self.assertIs(node, tree.body[0], path.name)

    def test_imports(self):
        for where, node in nodes(ast.ImportFrom):
            self.assertEqual((node.level, node.module.split(".")[0]), (0, "braemantle"), where)
            home = ast.parse((PACKAGE / (node.module.split(".", 1)[1] + ".py")).read_text())
            for each in node.names:
                kept = [name for top in home.body for name in self.names_of(top)]
                self.assertIn(each.name, kept, where)

    def test_no_files_draw_from_one_another(self):
        drawn = {path.stem: {node.module.split(".", 1)[1] for node in tree.body if isinstance(node, ast.ImportFrom)}
                 for path, tree in trees()}
        while drawn:
            ready = [name for name in drawn if not drawn[name] & set(drawn)]
            self.assertTrue(ready, sorted(drawn))
            for name in ready:
                del drawn[name]

    def test_each_name_of_a_top_once(self):
        for path, tree in trees():
            names = [name for top in tree.body for name in self.names_of(top)]
            names += [each.asname or each.name for top in tree.body if isinstance(top, ast.ImportFrom)
                      for each in top.names]
            self.assertEqual(sorted(set(names)), sorted(names), path.name)

    def names_of(self, top):
        if isinstance(top, (ast.FunctionDef, ast.ClassDef)):
            return [top.name]
        return [target.id for target in top.targets] if isinstance(top, ast.Assign) else []

    def test_defs_and_classes(self):
        for where, node in nodes(ast.FunctionDef):
            self.assertEqual(node.decorator_list, [], where)
            self.assertEqual((node.args.vararg, node.args.kwarg, node.args.posonlyargs), (None, None, []), where)
        for where, node in nodes(ast.ClassDef):
            self.assertEqual((node.decorator_list, node.keywords), ([], []), where)
            self.assertLessEqual(len(node.bases), 1, where)
            for number, row in enumerate(node.body):
                first_words = number == 0 and isinstance(row, ast.Expr)
                self.assertTrue(first_words or isinstance(row, ast.FunctionDef), where)

    def test_no_name_is_method_and_value(self):
        methods = {row.name for _, node in nodes(ast.ClassDef) for row in node.body if isinstance(row, ast.FunctionDef)}
        values = {node.attr for _, node in nodes(ast.Attribute) if isinstance(node.ctx, ast.Store)}
        self.assertEqual(methods & values, set())


    def test_values_that_are_asked_are_given_somewhere(self):
        given = {node.attr for _, node in nodes(ast.Attribute) if isinstance(node.ctx, ast.Store)}
        for where, node in nodes(ast.Attribute):
            around = parted()[node] if isinstance(node.ctx, ast.Load) else None
            if isinstance(node.ctx, ast.Load) and not (isinstance(around, ast.Call) and around.func is node):
                self.assertIn(node.attr, given, where)

    def test_classes_are_called_or_asked_for_alone(self):
        around = parted()
        classes = {node.name for _, node in nodes(ast.ClassDef)}
        for where, node in nodes(ast.Name):
            if node.id in classes:
                outer = around[node]
                fine = isinstance(outer, (ast.ClassDef, ast.ExceptHandler)) or called(outer) == "isinstance"
                self.assertTrue(fine or isinstance(outer, ast.Call) and outer.func is node, where)

    def test_sets(self):
        around = parted()
        for where, node in nodes(ast.Set, ast.SetComp, ast.Call):
            if not isinstance(node, ast.Call) or called(node) == "set":
                outer = around[node]
                while isinstance(outer, ast.BinOp):
                    outer = around[outer]
                # The rules would let a set be kept, too, under many bonds; the package keeps dicts of True.
                straight = called(outer) in ("sorted", "len") and not outer.keywords
                self.assertTrue(straight or isinstance(outer, ast.Compare), where)

    def test_methods_with_two_underscores(self):
        for where, node in nodes(ast.FunctionDef):
            if node.name in ("__eq__", "__len__", "__str__", "__repr__"):
                for row in ast.walk(node):
                    self.assertNotIsInstance(row, (ast.Assign, ast.AugAssign, ast.Delete), where)
                    if isinstance(row, ast.Return) and node.name != "__eq__":
                        self.check_told(node.name, row.value, where)
                self.assertIsInstance(node.body[-1], ast.Return, where)

    def check_told(self, name, told, where):
        if name == "__len__":
            self.assertTrue(called(told) == "len" or isinstance(told, ast.Constant), where)
        else:
            text = isinstance(told, ast.JoinedStr) or isinstance(told, ast.Constant) and isinstance(told.value, str)
            self.assertTrue(text or called(told) in ("str", "repr", "join"), where)

    def test_raised_errors_are_made_on_the_spot(self):
        classes = {node.name for _, node in nodes(ast.ClassDef)}
        for where, node in nodes(ast.Raise):
            if node.exc is not None:
                self.assertIsInstance(node.exc, ast.Call, where)
                self.assertIsInstance(node.exc.func, ast.Name, where)
                self.assertIn(node.exc.func.id, classes, where)

    def test_nothing_is_tried(self):
        """The rules let little stand in a try; the package does without."""
        self.assertEqual(nodes(ast.Try), [])

    def test_values_of_tops_are_plain(self):
        plain = (ast.Constant, ast.Tuple, ast.Dict, ast.Load, ast.UnaryOp, ast.USub)
        for path, tree in trees():
            for top in tree.body:
                if isinstance(top, ast.Assign):
                    for node in ast.walk(top.value):
                        self.assertIsInstance(node, plain, path.name)
                        self.assertTrue(node is top.value or not isinstance(node, ast.Dict), path.name)

    def test_dicts_of_tops_are_only_read(self):
        around = parted()
        for path, tree in trees():
            kept = {name for top in tree.body if isinstance(top, ast.Assign) and isinstance(top.value, ast.Dict)
                    for name in self.names_of(top)}
            for node in ast.walk(tree):
                if isinstance(node, ast.Name) and node.id in kept and isinstance(node.ctx, ast.Load):
                    outer = around[node]
                    index = isinstance(outer, ast.Subscript) and isinstance(outer.ctx, ast.Load)
                    self.assertTrue(index or isinstance(outer, ast.Compare), f"{path.name}:{node.lineno}")

    def test_names_with_a_star(self):
        around = parted()
        for where, node in nodes(ast.Starred):
            self.assertIsInstance(node.ctx, ast.Store, where)
            row = around[around[node]]
            self.assertIsInstance(row, ast.Assign, where)
            self.assertNotIn(called(row.value), WALKED | {"items", "keys", "values"}, where)

    def test_what_is_deleted(self):
        for where, node in nodes(ast.Delete):
            for target in node.targets:
                self.assertIsInstance(target, ast.Subscript, where)

    def test_what_a_loop_walks_is_not_changed_in_it(self):
        changes = {"append", "clear", "extend", "insert", "pop", "remove", "reverse", "setdefault", "update"}
        for where, node in nodes(ast.For):
            walked = ast.dump(node.iter)
            for inner in [inner for row in node.body for inner in ast.walk(row)]:
                if called(inner) in changes and isinstance(inner.func, ast.Attribute):
                    self.assertNotIn(ast.dump(inner.func.value), walked, where)


class CallsTest(unittest.TestCase):
    """Each call of an own def, class or method hands in what it takes."""

    def test_defs_and_classes(self):
        taken = {}
        for _, tree in trees():
            for top in tree.body:
                if isinstance(top, ast.FunctionDef):
                    taken.setdefault(top.name, []).append(takes(top.args, False))
                elif isinstance(top, ast.ClassDef):
                    inits = [row for row in top.body if isinstance(row, ast.FunctionDef) and row.name == "__init__"]
                    if inits:
                        taken.setdefault(top.name, []).append(takes(inits[0].args, True))
        self.check(taken, ast.Name)

    def test_methods(self):
        taken = {}
        for _, node in nodes(ast.ClassDef):
            for row in node.body:
                if isinstance(row, ast.FunctionDef) and row.name != "__init__":
                    taken.setdefault(row.name, []).append(takes(row.args, True))
        self.check(taken, ast.Attribute)

    def test_pythons_own(self):
        """Keywords stand at few of Python's own names, and at none of its methods."""
        own = {row.name for _, row in nodes(ast.FunctionDef, ast.ClassDef)}
        keywords = {"sorted": {"key", "reverse"}, "min": {"key", "default"}, "max": {"key", "default"},
                    "sum": {"start"}, "enumerate": {"start"}, "zip": {"strict"}}
        for where, node in nodes(ast.Call):
            if called(node) not in own:
                handed = {each.arg for each in node.keywords}
                allowed = keywords.get(called(node), set()) if isinstance(node.func, ast.Name) else set()
                self.assertLessEqual(handed, allowed, where)

    def check(self, taken, kind):
        for where, node in nodes(ast.Call):
            if isinstance(node.func, kind) and called(node) in taken:
                fits = []
                for names, every, must in taken[called(node)]:
                    handed = names[:len(node.args)] + [each.arg for each in node.keywords]
                    many = len(node.args) <= len(names) and len(set(handed)) == len(handed)
                    fits.append(many and must <= set(handed) <= every)
                self.assertIn(True, fits, where)


class NamesTest(unittest.TestCase):
    def test_bound_names(self):
        for path, tree in trees():
            for name, node in bound(tree):
                where = f"{path.name}:{node.lineno} {name}"
                if name in TWO_UNDERSCORES:
                    continue
                self.assertRegex(name, r"^[A-Za-z][A-Za-z0-9_]*$", where)
                self.assertNotIn(name, UNUSED_NAMES, where)
                self.assertFalse(hasattr(builtins, name), where)

    def test_locals_are_not_called_like_classes_or_imports(self):
        for path, tree in trees():
            kept = {name for name, node in bound(tree) if isinstance(node, (ast.ClassDef, ast.alias))}
            for name, node in bound(tree):
                if isinstance(node, (ast.arg, ast.Name)):
                    self.assertNotIn(name, kept, f"{path.name}:{node.lineno}")

    def test_pythons_own_names(self):
        for where, node in nodes(ast.Name):
            if hasattr(builtins, node.id):
                self.assertIn(node.id, OWN_NAMES, where)

    def test_methods(self):
        own = {node.name for _, node in nodes(ast.FunctionDef)}
        for where, node in nodes(ast.Call):
            if isinstance(node.func, ast.Attribute):
                self.assertIn(node.func.attr, OWN_METHODS | own, where)

    def test_is_beside_none_true_false_alone(self):
        for where, node in nodes(ast.Compare):
            for sign, right in zip(node.ops, node.comparators):
                if isinstance(sign, (ast.Is, ast.IsNot)):
                    self.assertIsInstance(right, ast.Constant, where)
                    self.assertTrue(right.value is None or isinstance(right.value, bool), where)

    def test_texts(self):
        for where, node in nodes(ast.Constant):
            self.assertNotIsInstance(node.value, (float, complex), where)
            if isinstance(node.value, str):
                self.assertNotIn("%", node.value, where)

    def test_what_is_walked_at_once(self):
        for path, tree in trees():
            walked = set()
            for node in ast.walk(tree):
                if isinstance(node, (ast.For, ast.comprehension)):
                    walked.add(node.iter)
                elif called(node) in WALKERS:
                    walked.update(node.args[:1])
                elif isinstance(node, ast.Compare) and isinstance(node.ops[0], (ast.In, ast.NotIn)):
                    walked.add(node.comparators[0])
            for node in ast.walk(tree):
                if called(node) in WALKED | {"items", "keys", "values"}:
                    self.assertIn(node, walked, f"{path.name}:{node.lineno}")


if __name__ == "__main__":
    unittest.main()
