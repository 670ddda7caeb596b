"""The package keeps to the subset of Python that it is written in: the rules that a parser can see."""

import ast
import builtins
import re
import unittest
from pathlib import Path

PACKAGE = Path(__file__).resolve().parent.parent / "shapeholes"
FILES = sorted(PACKAGE.glob("*.py"))
TREES = {file.stem: ast.parse(file.read_text()) for file in FILES}

BUILTINS = set("""len range enumerate zip min max sum abs sorted reversed int str bool list tuple dict set isinstance
    ord repr any all divmod map iter next Exception ValueError KeyError NotImplemented super property staticmethod
    classmethod""".split())
METHODS = set("""append clear copy count endswith extend find get index insert isalnum isalpha isdigit islower isspace
    isupper items join keys ljust lower lstrip partition pop remove replace reverse rfind rjust rpartition rsplit rstrip
    setdefault split splitlines startswith strip update upper values zfill bit_length add discard""".split())
SPECIAL = {"__init__", "__eq__", "__contains__", "__len__", "__repr__", "__str__"}
NODES = (
    ast.Module, ast.ImportFrom, ast.alias, ast.FunctionDef, ast.ClassDef, ast.arguments, ast.arg, ast.Assign, ast.AugAssign,
    ast.If, ast.While, ast.For, ast.Return, ast.Break, ast.Continue, ast.Pass, ast.Raise, ast.Assert, ast.Delete, ast.Expr,
    ast.Try, ast.ExceptHandler, ast.Constant, ast.Name, ast.Attribute, ast.Subscript, ast.Slice, ast.Tuple, ast.List,
    ast.Dict, ast.Set, ast.ListComp, ast.DictComp, ast.SetComp, ast.comprehension, ast.Call, ast.keyword, ast.BinOp,
    ast.UnaryOp, ast.BoolOp, ast.Compare, ast.IfExp, ast.Lambda, ast.JoinedStr, ast.FormattedValue, ast.Starred,
    ast.expr_context, ast.operator, ast.unaryop, ast.boolop, ast.cmpop)
BARRED = set("""register mro elements open input law version_info with_traceback add_note attrgetter breakpoint builtins
    compile copyright credits delattr dir eval exec exit gc getattr globals hasattr help id importlib license locals
    methodcaller os quit setattr super type vars sys""".split())
BARRED_WORDS = re.compile(
    r"\b(type|typing|enum|Enum|Flag|Generic|Protocol|ABC|namedtuple|NamedTuple|abstractmethod)\b"
    r"|dataclass|overload|contextmanager|_wall|_WallAttr")


def is_builtin(word):
    # A shell and doctest keep their last value in a builtin called _.
    return word != "_" and hasattr(builtins, word)


def walked():
    return [(name, node) for name, tree in TREES.items() for node in ast.walk(tree)]


def of_kind(*kinds):
    return [(name, node) for name, node in walked() if isinstance(node, kinds)]


def bound_names(tree):
    """What stands at module level."""
    names = []
    for node in tree.body:
        if isinstance(node, ast.ImportFrom):
            names += [item.name for item in node.names]
        elif isinstance(node, (ast.FunctionDef, ast.ClassDef)):
            names.append(node.name)
        elif isinstance(node, ast.Assign):
            names += [target.id for target in node.targets]
    return names


def without_names(value, functions):
    """A value with 0 in place of the names of functions that stand above it."""
    class Replacer(ast.NodeTransformer):
        def visit_Name(self, node):
            return ast.Constant(0) if node.id in functions else node
    return Replacer().visit(ast.parse(ast.unparse(value), mode="eval").body)


def local_names(tree):
    return ([node.arg for node in ast.walk(tree) if isinstance(node, ast.arg)]
            + [node.id for part in ast.walk(tree) if isinstance(part, ast.FunctionDef)
               for node in ast.walk(part) if isinstance(node, ast.Name) and isinstance(node.ctx, ast.Store)])


class Files(unittest.TestCase):
    def test_folder(self):
        found = [path.name for path in PACKAGE.iterdir() if path.name != "__pycache__"]
        self.assertTrue(all(re.fullmatch(r"[a-z_][a-z0-9_]*\.py", name) for name in found), found)
        self.assertIn("__init__.py", found)

    def test_characters_and_size(self):
        for file in FILES:
            text = file.read_text()
            self.assertTrue(all(sign == "\n" or " " <= sign <= "~" for sign in text), file)
            self.assertLessEqual(len(text.splitlines()), 399, file)
            self.assertLessEqual(max(len(line) for line in text.splitlines()), 120, file)

    def test_size_of_functions(self):
        for name, node in of_kind(ast.FunctionDef, ast.Lambda):
            self.assertLessEqual(node.end_lineno - node.lineno + 1, 40, (name, node.lineno))

    def test_words(self):
        for file in FILES:
            code = re.sub(r'"""(.|\n)*?"""|#.*', "", file.read_text())
            self.assertIsNone(BARRED_WORDS.search(code), file)


class Structure(unittest.TestCase):
    def test_nodes(self):
        for name, node in walked():
            self.assertIsInstance(node, NODES, (name, getattr(node, "lineno", 0)))
            self.assertNotIsInstance(node, (ast.Div, ast.MatMult), name)

    def test_module_level(self):
        for name, tree in TREES.items():
            for k, node in enumerate(tree.body):
                if k == 0:
                    self.assertIsNotNone(ast.get_docstring(tree), name)
                else:
                    self.assertIsInstance(node, (ast.ImportFrom, ast.FunctionDef, ast.ClassDef, ast.Assign), name)
                if isinstance(node, ast.Assign):
                    functions = [part.name for part in tree.body[:k] if isinstance(part, ast.FunctionDef)]
                    ast.literal_eval(without_names(node.value, functions))
            self.assertEqual(len(bound_names(tree)), len(set(bound_names(tree))), name)

    def test_imports(self):
        befores = {}
        for name, node in of_kind(ast.ImportFrom):
            self.assertEqual(node.level, 0, name)
            self.assertTrue(all(item.asname is None and item.name != "*" for item in node.names), name)
            if node.module in ("heapq", "math", "itertools"):
                continue
            self.assertTrue(node.module.startswith("shapeholes."), name)
            source = node.module.partition(".")[2]
            defined = [part.name if hasattr(part, "name") else part.targets[0].id for part in TREES[source].body
                       if isinstance(part, (ast.FunctionDef, ast.ClassDef, ast.Assign))]
            self.assertTrue({item.name for item in node.names} <= set(defined), (name, node.module))
            befores.setdefault(name, set()).add(source)
        while befores:
            ready = [name for name in befores if not befores[name] & set(befores)]
            self.assertTrue(ready, befores)
            befores = {name: befores[name] for name in befores if name not in ready}

    def test_all_that_is_imported_is_used(self):
        for name, tree in TREES.items():
            used = {node.id for node in ast.walk(tree) if isinstance(node, ast.Name)}
            for node in tree.body:
                if isinstance(node, ast.ImportFrom):
                    self.assertTrue({item.name for item in node.names} <= used, (name, node.module))

    def test_classes(self):
        for name, node in of_kind(ast.ClassDef):
            self.assertEqual(node.decorator_list, [], name)
            methods = [part.name for part in node.body if isinstance(part, ast.FunctionDef)]
            self.assertEqual(len(methods), len(set(methods)), (name, node.name))
            for method in methods:
                self.assertTrue(not method.startswith("__") or method in SPECIAL, (name, method))

    def test_decorators(self):
        for name, node in of_kind(ast.FunctionDef):
            self.assertTrue(all(ast.unparse(part) == "property" for part in node.decorator_list), (name, node.name))

    def test_properties_are_not_assigned(self):
        properties = {node.name for _, node in of_kind(ast.FunctionDef) if node.decorator_list}
        for name, node in of_kind(ast.Attribute):
            self.assertTrue(isinstance(node.ctx, ast.Load) or node.attr not in properties, (name, node.attr))


class Names(unittest.TestCase):
    def test_no_other_builtins(self):
        for name, node in of_kind(ast.Name):
            if is_builtin(node.id):
                self.assertIn(node.id, BUILTINS, (name, node.lineno))
                self.assertIsInstance(node.ctx, ast.Load, (name, node.lineno))

    def test_locals(self):
        for name, tree in TREES.items():
            imports = [item.name for node in tree.body if isinstance(node, ast.ImportFrom) for item in node.names]
            classes = [node.name for node in tree.body if isinstance(node, ast.ClassDef)]
            for local in local_names(tree):
                self.assertFalse(is_builtin(local), (name, local))
                self.assertNotIn(local, imports + classes, name)
                self.assertNotIn(local, BARRED, name)
                self.assertFalse(local.startswith("__"), (name, local))

    def test_attributes_and_methods(self):
        own = {node.name for _, node in of_kind(ast.FunctionDef)}
        stored = {node.attr for _, node in of_kind(ast.Attribute) if isinstance(node.ctx, ast.Store)}
        properties = {node.name for _, node in of_kind(ast.FunctionDef) if node.decorator_list}
        for name, node in of_kind(ast.Call):
            if isinstance(node.func, ast.Attribute):
                self.assertIn(node.func.attr, METHODS | own, (name, node.lineno))
        called = {id(node.func) for _, node in of_kind(ast.Call)}
        for name, node in of_kind(ast.Attribute):
            if id(node) not in called:
                self.assertIn(node.attr, stored | properties, (name, node.lineno))


class Expressions(unittest.TestCase):
    def test_is(self):
        for name, node in of_kind(ast.Compare):
            for sign, value in zip(node.ops, node.comparators):
                if isinstance(sign, (ast.Is, ast.IsNot)):
                    self.assertIn(ast.unparse(value), ("None", "True", "False"), (name, node.lineno))

    def test_no_floats_and_no_powers(self):
        for name, node in of_kind(ast.Constant):
            self.assertNotIsInstance(node.value, (float, complex, bytes), (name, node.lineno))
            self.assertNotIn("%", node.value if isinstance(node.value, str) else "", (name, node.lineno))
        for name, node in of_kind(ast.BinOp):
            self.assertTrue(not isinstance(node.op, ast.Pow) or isinstance(node.right, ast.Constant), (name, node.lineno))

    def test_iterators_are_iterated_at_once(self):
        kept = {"zip", "enumerate", "reversed", "range", "map"}
        takers = {"list", "tuple", "dict", "sorted", "sum", "any", "all", "enumerate", "zip", "reversed", "len"}
        good = set()
        for _, node in of_kind(ast.For, ast.comprehension):
            good.add(id(node.iter))
        for _, node in of_kind(ast.Call):
            if isinstance(node.func, ast.Name) and node.func.id in takers:
                good |= {id(part) for part in node.args}
        for name, node in of_kind(ast.Call):
            if isinstance(node.func, ast.Name) and node.func.id in kept:
                self.assertIn(id(node), good, (name, node.lineno))

    def test_sets_are_sorted_at_once(self):
        good = {id(part) for _, node in of_kind(ast.Call) for part in node.args
                if ast.unparse(node.func) in ("sorted", "len")}
        for name, node in of_kind(ast.Call):
            if ast.unparse(node.func) == "set":
                self.assertIn(id(node), good, (name, node.lineno))
        self.assertEqual(of_kind(ast.Set, ast.SetComp), [])

    def test_own_errors_are_raised_on_the_spot(self):
        errors = bound_names(TREES["errors"])
        for name, node in of_kind(ast.Raise):
            self.assertIsInstance(node.exc, ast.Call, (name, node.lineno))
            self.assertIn(ast.unparse(node.exc.func), errors, (name, node.lineno))

    def test_what_is_iterated_over_stays(self):
        """No loop changes by a method or an item the very name that it iterates over."""
        for name, node in of_kind(ast.For):
            names = {part.id for part in ast.walk(node.iter) if isinstance(part, ast.Name)}
            if isinstance(node.iter, ast.Call):
                names = {part.id for part in node.iter.args if isinstance(part, ast.Name)}
            for part in [inner for row in node.body for inner in ast.walk(row)]:
                if isinstance(part, ast.Subscript) and not isinstance(part.ctx, ast.Load):
                    self.assertNotIn(ast.unparse(part.value), names, (name, part.lineno))
                if isinstance(part, ast.Call) and isinstance(part.func, ast.Attribute):
                    if part.func.attr in ("append", "remove", "pop", "clear", "extend", "insert", "update"):
                        self.assertNotIn(ast.unparse(part.func.value), names, (name, part.lineno))


if __name__ == "__main__":
    unittest.main()
