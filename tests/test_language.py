"""The rules of the language that can be seen in the code of the package (the greater part of L1 to L28)."""

import ast
import builtins
import pathlib
import re
import unittest

PACKAGE = pathlib.Path(__file__).resolve().parent.parent / "fieldberth"
FILES = sorted(PACKAGE.rglob("*.py"))
TREES = {path.stem: ast.parse(path.read_text(encoding="ascii")) for path in FILES}

BUILTINS = """len range enumerate zip min max sum abs sorted reversed int str bool bytes list tuple dict set frozenset
    isinstance ord repr any all divmod Exception ValueError TypeError KeyError IndexError LookupError ZeroDivisionError
    ArithmeticError OverflowError RuntimeError NotImplementedError AttributeError StopIteration NotImplemented iter next
    property staticmethod classmethod super""".split()
BUILTIN_METHODS = """append clear copy count endswith extend find get index insert isalnum isalpha isdigit islower isspace
    isupper items join keys ljust lower lstrip partition pop remove replace reverse rfind rjust rpartition rsplit rstrip
    setdefault split splitlines startswith strip update upper values zfill bit_length add discard sort""".split()
DOUBLE = """__init__ __eq__ __repr__ __str__ __len__ __enter__ __exit__ __call__ __iter__ __lt__ __le__ __gt__ __ge__ __ne__
    __bool__ __contains__ __getitem__ __setitem__ __neg__ __pos__ __invert__ __abs__""".split()
BARRED_NAMES = """register mro elements open input law version_info with_traceback add_note attrgetter breakpoint builtins
    compile copyright credits delattr dir eval exec exit gc getattr globals hasattr help id importlib license locals
    methodcaller os quit setattr sys type vars""".split()
BARRED_WORDS = r"""\b(type|typing|typing_extensions|enum|Enum|IntEnum|StrEnum|Flag|IntFlag|Generic|Protocol|ABC|ABCMeta
    |namedtuple|NamedTuple|TypedDict|TYPE_CHECKING|abstractmethod)\b|dataclass|overload|contextmanager"""
STATEMENTS = (ast.Assign, ast.AugAssign, ast.AnnAssign, ast.If, ast.While, ast.For, ast.Return, ast.Break, ast.Continue,
              ast.Pass, ast.Raise, ast.Assert, ast.Delete, ast.Nonlocal, ast.Match, ast.With, ast.Try, ast.Expr,
              ast.FunctionDef, ast.ClassDef, ast.ImportFrom)
PLAIN = (ast.Constant, ast.Tuple, ast.List, ast.Dict, ast.Name, ast.UnaryOp, ast.USub, ast.BinOp, ast.operator, ast.Load)


def walk(kind):
    """All nodes of that kind in all files, with the name of the file."""
    for stem, tree in TREES.items():
        for node in ast.walk(tree):
            if isinstance(node, kind):
                yield stem, node


def bound_names():
    """All names that the package binds, with the file and the line."""
    for stem, node in walk((ast.Name, ast.arg, ast.FunctionDef, ast.ClassDef, ast.ExceptHandler, ast.alias, ast.MatchAs,
                            ast.MatchStar)):
        if isinstance(node, ast.Name) and not isinstance(node.ctx, ast.Load):
            yield stem, node.lineno, node.id
        elif isinstance(node, ast.arg):
            yield stem, node.lineno, node.arg
        elif not isinstance(node, ast.Name) and node.name:
            yield stem, node.lineno, node.name


def is_docstring(node):
    return isinstance(node, ast.Expr) and isinstance(node.value, ast.Constant) and isinstance(node.value.value, str)


def choices(node):
    """The names that an expression may stand for, as it is."""
    if isinstance(node, ast.Name):
        return {node.id}
    if isinstance(node, ast.IfExp):
        return choices(node.body) | choices(node.orelse)
    if isinstance(node, ast.BoolOp):
        return set().union(*[choices(value) for value in node.values])
    return set()


def same_objects(function):
    """For each name of a function, the names that may stand for the same object by its assignments."""
    groups = {}
    for node in ast.walk(function):
        if not isinstance(node, ast.Assign):
            continue
        for target in node.targets:
            pairs = [(target, node.value)]
            if isinstance(target, ast.Tuple) and isinstance(node.value, ast.Tuple):
                pairs = list(zip(target.elts, node.value.elts))
            for one, value in pairs:
                joined = choices(one) | choices(value)
                for name in list(joined):
                    joined |= groups.get(name, set())
                for name in joined:
                    groups[name] = joined
    return groups


class FilesTest(unittest.TestCase):
    def test_the_folder_holds_plain_files_alone(self):
        for path in PACKAGE.rglob("*"):
            if path.name != "__pycache__" and path.parent.name != "__pycache__":
                self.assertRegex(path.name, r"^(__init__|[a-z][a-z0-9_]*)\.py$")
        self.assertTrue((PACKAGE / "__init__.py").exists())

    def test_lines_and_signs(self):
        for path in FILES:
            text = path.read_text(encoding="ascii")
            self.assertLessEqual(len(text.splitlines()), 399, path.name)
            for number, line in enumerate(text.split("\n"), 1):
                self.assertLessEqual(len(line), 120, (path.name, number))
                self.assertRegex(line, r"^[ -~]*$", (path.name, number))

    def test_barred_words(self):
        for path in FILES:
            found = re.search(BARRED_WORDS, path.read_text(encoding="ascii"), re.VERBOSE)
            self.assertIsNone(found, (path.name, found))

    def test_functions_are_short(self):
        for stem, node in walk(ast.FunctionDef):
            self.assertLessEqual(node.end_lineno - node.lineno + 1, 40, (stem, node.name))


class ModulesTest(unittest.TestCase):
    def test_what_stands_at_module_level(self):
        for stem, tree in TREES.items():
            for place, node in enumerate(tree.body):
                if is_docstring(node):
                    self.assertEqual(place, 0, stem)
                    continue
                self.assertIsInstance(node, (ast.ImportFrom, ast.FunctionDef, ast.ClassDef, ast.Assign), stem)
                if isinstance(node, ast.Assign):
                    self.assertEqual(len(node.targets), 1, (stem, node.lineno))
                    self.assertIsInstance(node.targets[0], ast.Name, (stem, node.lineno))
                    for part in ast.walk(node.value):
                        self.assertIsInstance(part, PLAIN, (stem, node.lineno))

    def test_each_name_is_bound_once_at_module_level(self):
        for stem, tree in TREES.items():
            bound = []
            for node in tree.body:
                if isinstance(node, ast.ImportFrom):
                    bound.extend(alias.name for alias in node.names)
                elif isinstance(node, ast.Assign):
                    bound.append(node.targets[0].id)
                elif not is_docstring(node):
                    bound.append(node.name)
            self.assertEqual(sorted(bound), sorted(set(bound)), stem)

    def test_imports(self):
        wanted = {}
        for stem, tree in TREES.items():
            self.assertFalse([node for node in ast.walk(tree) if isinstance(node, ast.Import)], stem)
            wanted[stem] = set()
            for node in ast.walk(tree):
                if isinstance(node, ast.ImportFrom):
                    self.assertIn(node, tree.body)
                    self.assertEqual(node.level, 0, stem)
                    package, source = node.module.split(".")
                    self.assertEqual(package, "fieldberth")
                    wanted[stem].add(source)
                    defined = [part.name if hasattr(part, "name") else part.targets[0].id for part in TREES[source].body
                               if isinstance(part, (ast.FunctionDef, ast.ClassDef, ast.Assign))]
                    for alias in node.names:
                        self.assertIsNone(alias.asname)
                        self.assertIn(alias.name, defined, stem)
        while wanted:
            ready = [stem for stem, sources in wanted.items() if not sources & set(wanted)]
            self.assertTrue(ready, f"these import in a circle: {sorted(wanted)}")
            for stem in ready:
                del wanted[stem]

    def test_all_imports_are_used(self):
        for stem, tree in TREES.items():
            used = {node.id for node in ast.walk(tree) if isinstance(node, ast.Name)}
            for node in tree.body:
                if isinstance(node, ast.ImportFrom):
                    self.assertLessEqual({alias.name for alias in node.names}, used, stem)


class CodeTest(unittest.TestCase):
    def test_statements(self):
        for stem, node in walk(ast.stmt):
            self.assertIsInstance(node, STATEMENTS, (stem, node.lineno))
        for stem, node in walk(ast.Expr):
            self.assertTrue(is_docstring(node) or isinstance(node.value, (ast.Call, ast.Yield, ast.YieldFrom)),
                            (stem, node.lineno))

    def test_decorators(self):
        for stem, node in walk((ast.FunctionDef, ast.ClassDef)):
            for decorator in node.decorator_list:
                self.assertRegex(ast.unparse(decorator), r"^(property|staticmethod|classmethod|\w+\.setter)$", stem)

    def test_parameters(self):
        for stem, node in walk(ast.arguments):
            self.assertEqual(node.posonlyargs, [], stem)

    def test_names(self):
        known = set(dir(builtins))
        for stem, line, name in bound_names():
            if name in DOUBLE:
                continue
            self.assertFalse(name.startswith("_"), (stem, line, name))
            self.assertNotIn(name, known, (stem, line))
            self.assertNotIn(name, BARRED_NAMES, (stem, line))

    def test_builtins(self):
        own = {name for stem, line, name in bound_names()}
        for stem, node in walk(ast.Name):
            self.assertTrue(node.id in own or node.id in BUILTINS, (stem, node.lineno, node.id))

    def test_locals_hide_nothing_of_their_file(self):
        for stem, tree in TREES.items():
            top = set()
            for node in tree.body:
                if isinstance(node, ast.ImportFrom):
                    top |= {alias.name for alias in node.names}
                elif isinstance(node, ast.ClassDef):
                    top.add(node.name)
            for node in ast.walk(tree):
                if isinstance(node, ast.arg):
                    self.assertNotIn(node.arg, top, stem)
                if isinstance(node, ast.Name) and isinstance(node.ctx, ast.Store):
                    self.assertNotIn(node.id, top, stem)

    def test_methods_and_attributes(self):
        methods, stored, read, called = set(), set(), set(), set()
        for stem, node in walk(ast.ClassDef):
            names = [part.name for part in node.body if isinstance(part, ast.FunctionDef)]
            for name in names:
                if name.startswith("_"):
                    self.assertIn(name, DOUBLE, stem)
            for part in node.body:
                self.assertTrue(is_docstring(part) or isinstance(part, (ast.FunctionDef, ast.Assign)), stem)
            methods.update(names)
        for stem, node in walk(ast.Attribute):
            (read if isinstance(node.ctx, ast.Load) else stored).add(node.attr)
        for stem, node in walk(ast.Call):
            if isinstance(node.func, ast.Attribute):
                called.add(node.func.attr)
                self.assertIn(node.func.attr, methods | set(BUILTIN_METHODS), (stem, node.lineno))
        properties = {node.name for stem, node in walk(ast.FunctionDef) if node.decorator_list}
        self.assertFalse(methods & stored)
        self.assertLessEqual(read - called, stored | properties)

    def test_identity_is_asked_of_constants_alone(self):
        for stem, node in walk(ast.Compare):
            for sign, right in zip(node.ops, node.comparators):
                if isinstance(sign, (ast.Is, ast.IsNot)):
                    self.assertIn(ast.unparse(right), ("None", "True", "False"), (stem, node.lineno))

    def test_numbers_and_strings(self):
        for stem, node in walk(ast.Constant):
            self.assertNotIsInstance(node.value, (float, complex, type(...)), (stem, node.lineno))
            if isinstance(node.value, str):
                self.assertNotIn(chr(37), node.value, (stem, node.lineno))
                self.assertFalse(node.value.endswith(("._", ".__")), (stem, node.lineno))
        for stem, node in walk(ast.Div):
            self.fail((stem, node))
        for stem, node in walk(ast.BinOp):
            if isinstance(node.op, ast.Pow):
                self.assertIsInstance(node.right, ast.Constant, (stem, node.lineno))

    def test_beside_operators_lists_instead_of_generators(self):
        for stem, node in walk(ast.Call):
            if ast.unparse(node.func) in ("sum", "min", "max", "sorted", "any", "all"):
                for argument in node.args:
                    self.assertNotIsInstance(argument, ast.GeneratorExp, (stem, node.lineno))

    def test_errors_are_made_on_the_spot(self):
        for stem, node in walk(ast.Raise):
            self.assertTrue(node.exc is None or isinstance(node.exc, ast.Call), (stem, node.lineno))

    def test_nothing_gets_what_it_changes(self):
        for stem, function in walk(ast.FunctionDef):
            groups = same_objects(function)
            for node in ast.walk(function):
                target = value = None
                if isinstance(node, ast.AugAssign):
                    target, value = node.target, node.value
                elif isinstance(node, ast.Call) and isinstance(node.func, ast.Attribute) and node.args:
                    if node.func.attr in ("extend", "update"):
                        target, value = node.func.value, node.args[0]
                if isinstance(target, ast.Name):
                    own = groups.get(target.id, {target.id})
                    self.assertFalse(own & choices(value), (stem, node.lineno))

    def test_what_is_walked_is_not_changed(self):
        changing = ("append", "clear", "extend", "insert", "pop", "remove", "reverse", "setdefault", "update", "sort")
        for stem, loop in walk(ast.For):
            walked = {ast.unparse(node) for node in ast.walk(loop.iter) if isinstance(node, (ast.Name, ast.Attribute))}
            for node in [inner for row in loop.body for inner in ast.walk(row)]:
                if isinstance(node, ast.Subscript) and not isinstance(node.ctx, ast.Load):
                    self.assertNotIn(ast.unparse(node.value), walked, (stem, node.lineno))
                if isinstance(node, ast.Call) and isinstance(node.func, ast.Attribute) and node.func.attr in changing:
                    self.assertNotIn(ast.unparse(node.func.value), walked, (stem, node.lineno))

    def test_captured_names_are_nothing_else(self):
        for stem, function in walk(ast.FunctionDef):
            captured = {node.name for node in ast.walk(function) if isinstance(node, ast.MatchAs)}
            for node in ast.walk(function):
                if isinstance(node, ast.Name) and not isinstance(node.ctx, ast.Load):
                    self.assertNotIn(node.id, captured, (stem, node.lineno))
                if isinstance(node, ast.arg):
                    self.assertNotIn(node.arg, captured, (stem, node.lineno))

    def test_names_of_properties(self):
        properties = {node.name for stem, node in walk(ast.FunctionDef) if node.decorator_list}
        methods = {part.name for stem, node in walk(ast.ClassDef) for part in node.body
                   if isinstance(part, ast.FunctionDef) and not part.decorator_list}
        stored = {node.attr for stem, node in walk(ast.Attribute) if not isinstance(node.ctx, ast.Load)}
        self.assertFalse(properties & (methods | stored | set(BUILTIN_METHODS)))

    def test_no_set_is_iterated(self):
        for stem, node in walk((ast.For, ast.comprehension)):
            self.assertNotIsInstance(node.iter, (ast.Set, ast.SetComp), stem)
            self.assertFalse(ast.unparse(node.iter).startswith("set("), stem)


if __name__ == "__main__":
    unittest.main()
