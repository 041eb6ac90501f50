"""Point 1: no clock, no random numbers, no files; and those language rules that a test can see."""

import ast
import builtins
import pathlib
import re
import unittest

FOLDER = pathlib.Path(__file__).resolve().parent.parent / "pileports"

BUILTINS = set("""
    len range enumerate zip min max sum abs sorted reversed int str bool list tuple dict set frozenset isinstance ord
    repr any all divmod iter next Exception ValueError TypeError KeyError IndexError LookupError ZeroDivisionError
    ArithmeticError OverflowError RuntimeError NotImplementedError AttributeError StopIteration NotImplemented
    property staticmethod classmethod super
""".split())

STATEMENTS = (
    ast.FunctionDef, ast.ClassDef, ast.Return, ast.Delete, ast.Assign, ast.AugAssign, ast.AnnAssign, ast.For, ast.While,
    ast.If, ast.With, ast.Raise, ast.Try, ast.Assert, ast.ImportFrom, ast.Nonlocal, ast.Expr, ast.Pass, ast.Break,
    ast.Continue, ast.Match,
)

BARRED_NAMES = set("""
    register mro elements open input law version_info with_traceback add_note attrgetter breakpoint builtins compile
    copyright credits delattr dir eval exec exit gc getattr globals hasattr help id importlib license locals
    methodcaller os quit setattr type vars sys
""".split())

BARRED_WORDS = re.compile(
    r"\b(type|typing|typing_extensions|enum|Enum|IntEnum|StrEnum|Flag|IntFlag|Generic|Protocol|ABC|ABCMeta|namedtuple"
    r"|NamedTuple|TypedDict|TYPE_CHECKING|abstractmethod)\b|dataclass|overload|contextmanager")

DOUBLE = set("""
    __init__ __eq__ __repr__ __str__ __len__ __enter__ __exit__ __call__ __iter__ __add__ __mul__ __contains__
""".split())

VALUE_METHODS = set("""
    append clear copy count endswith extend find get index insert isalnum isalpha isdigit islower isspace isupper items
    join keys ljust lower lstrip partition pop remove replace reverse rfind rjust rpartition rsplit rstrip setdefault
    split splitlines startswith strip update upper values zfill bit_length removeprefix removesuffix
""".split())


def trees():
    for path in sorted(FOLDER.glob("**/*.py")):
        yield path.name, ast.parse(path.read_text(encoding="ascii"))


def is_plainly_text(node):
    """Whether an expression is a string, as the code shows: a written text, an f-string, str(..), repr(..), a join."""
    if isinstance(node, ast.Constant):
        return isinstance(node.value, str)
    if isinstance(node, ast.Call):
        if isinstance(node.func, ast.Attribute):
            return node.func.attr == "join" and isinstance(node.func.value, ast.Constant)
        return isinstance(node.func, ast.Name) and node.func.id in ("str", "repr")
    if isinstance(node, ast.BinOp) and isinstance(node.op, ast.Add):
        return is_plainly_text(node.left) and is_plainly_text(node.right)
    return isinstance(node, ast.JoinedStr)


def bare_sums(tree):
    """The lines of a file where a + in __str__ or __repr__ stands between other things than texts."""
    for node in ast.walk(tree):
        if isinstance(node, ast.FunctionDef) and node.name in ("__str__", "__repr__"):
            for part in ast.walk(node):
                if isinstance(part, ast.BinOp) and isinstance(part.op, ast.Add) and not is_plainly_text(part):
                    yield part.lineno
                elif isinstance(part, ast.AugAssign) and not is_plainly_text(part.value):
                    yield part.lineno


def is_setter(node):
    """Whether a method is the setter of a property."""
    return [mark.attr for mark in node.decorator_list if isinstance(mark, ast.Attribute)] == ["setter"]


def parents(tree):
    """The dict from each node of a file to the node that holds it."""
    return {part: node for node in ast.walk(tree) for part in ast.iter_child_nodes(node)}


def called_name(node):
    """The name of what is called, of a function or of a method."""
    return node.func.id if isinstance(node.func, ast.Name) else getattr(node.func, "attr", None)


def bound_names(tree):
    """All names that a file gives a meaning, methods left out."""
    methods = [part for node in ast.walk(tree) if isinstance(node, ast.ClassDef) for part in node.body]
    for node in ast.walk(tree):
        if isinstance(node, ast.Name) and isinstance(node.ctx, ast.Store):
            yield node.id
        elif isinstance(node, ast.arg):
            yield node.arg
        elif isinstance(node, (ast.FunctionDef, ast.ClassDef)) and node not in methods:
            yield node.name
        elif isinstance(node, ast.alias):
            yield node.asname or node.name
        elif isinstance(node, ast.ExceptHandler) and node.name:
            yield node.name


class LanguageTest(unittest.TestCase):
    def test_files(self):
        for path in FOLDER.glob("**/*"):
            if "__pycache__" not in path.parts:
                self.assertRegex(path.name, r"^[a-z0-9_]+\.py$")
        self.assertTrue((FOLDER / "__init__.py").is_file())

    def test_only_own_imports(self):
        own = {"pileports." + path.stem for path in FOLDER.glob("*.py")}
        for name, tree in trees():
            for node in ast.walk(tree):
                self.assertNotIsInstance(node, ast.Import, name)
                if isinstance(node, ast.ImportFrom):
                    self.assertEqual(node.level, 0, name)
                    self.assertIn(node.module, own, name)
                    self.assertNotIn("*", [alias.name for alias in node.names])

    def test_imports_name_the_defining_file(self):
        defined = {"pileports." + name[:-3]: {part.name for part in tree.body if hasattr(part, "name")}
                   | {target.id for part in tree.body if isinstance(part, ast.Assign) for target in part.targets}
                   for name, tree in trees()}
        for name, tree in trees():
            for node in ast.walk(tree):
                if isinstance(node, ast.ImportFrom):
                    for alias in node.names:
                        self.assertIn(alias.name, defined[node.module], name)

    def test_only_listed_builtins(self):
        outside = set(dir(builtins)) - BUILTINS
        for name, tree in trees():
            own = set(bound_names(tree))
            self.assertEqual(own & set(dir(builtins)), set(), name)
            for node in ast.walk(tree):
                if isinstance(node, ast.Name):
                    self.assertNotIn(node.id, outside, name)

    def test_names(self):
        for name, tree in trees():
            for bound in bound_names(tree):
                self.assertFalse(bound.startswith("_"), (name, bound))
                self.assertNotIn(bound, BARRED_NAMES, name)
            for node in ast.walk(tree):
                if isinstance(node, ast.Attribute):
                    self.assertTrue(not node.attr.startswith("_") or node.attr in DOUBLE, (name, node.attr))

    def test_statements(self):
        for name, tree in trees():
            for node in ast.walk(tree):
                if isinstance(node, ast.stmt):
                    self.assertIsInstance(node, STATEMENTS, (name, node.lineno))
                self.assertNotIsInstance(node, ast.Div, name)
                if isinstance(node, ast.Constant):
                    self.assertNotIsInstance(node.value, (float, complex), name)
                    if isinstance(node.value, str):
                        self.assertNotIn("%", node.value, name)

    def test_module_level(self):
        kinds = (ast.ImportFrom, ast.FunctionDef, ast.ClassDef, ast.Assign, ast.Expr)
        for name, tree in trees():
            for at, part in enumerate(tree.body):
                self.assertIsInstance(part, kinds, name)
                if isinstance(part, ast.Expr):
                    self.assertEqual(at, 0, name)
            bound = [part.name for part in tree.body if hasattr(part, "name")]
            for part in tree.body:
                if isinstance(part, ast.Assign):
                    bound += [target.id for target in part.targets]
                if isinstance(part, ast.ImportFrom):
                    bound += [alias.asname or alias.name for alias in part.names]
            self.assertEqual(len(bound), len(set(bound)), name)

    def test_own_names_are_not_given_another_meaning(self):
        for name, tree in trees():
            taken = {node.name for node in ast.walk(tree) if isinstance(node, ast.ClassDef)}
            taken |= {node.asname or node.name for node in ast.walk(tree) if isinstance(node, ast.alias)}
            for node in ast.walk(tree):
                if isinstance(node, ast.Name) and isinstance(node.ctx, ast.Store):
                    self.assertNotIn(node.id, taken, (name, node.lineno))
                elif isinstance(node, ast.arg):
                    self.assertNotIn(node.arg, taken, (name, node.lineno))

    def test_methods_and_attributes(self):
        methods, stored, called, setters = set(), set(), set(), set()
        for name, tree in trees():
            for node in ast.walk(tree):
                if isinstance(node, ast.ClassDef):
                    parts = [part for part in node.body if isinstance(part, ast.FunctionDef)]
                    # A property and its setter are one.
                    made = [part.name for part in parts if not is_setter(part)]
                    self.assertEqual(len(set(made)), len(made), (name, node.name))
                    methods |= set(made)
                    setters |= {part.name for part in parts if is_setter(part)}
                elif isinstance(node, ast.Attribute) and isinstance(node.ctx, ast.Store):
                    stored.add(node.attr)
                elif isinstance(node, ast.Call) and isinstance(node.func, ast.Attribute):
                    called.add(node.func.attr)
        self.assertEqual(methods & stored - setters, set())
        self.assertLessEqual(called - methods, VALUE_METHODS)
        self.assertEqual((methods | stored) & (VALUE_METHODS - {"find", "get", "copy", "count", "index"}), set())

    def test_decorators(self):
        for name, tree in trees():
            for node in ast.walk(tree):
                if isinstance(node, ast.ClassDef):
                    self.assertEqual(node.decorator_list, [], name)
                elif isinstance(node, ast.FunctionDef):
                    self.assertLessEqual(len(node.decorator_list), 1, name)
                    for mark in node.decorator_list:
                        if is_setter(node):
                            self.assertEqual(mark.value.id, node.name, name)
                        else:
                            self.assertIn(mark.id, ("property", "classmethod", "staticmethod"), name)

    def test_is_and_generators(self):
        for name, tree in trees():
            for node in ast.walk(tree):
                if isinstance(node, ast.Compare):
                    for sign, right in zip(node.ops, node.comparators):
                        if isinstance(sign, (ast.Is, ast.IsNot)):
                            self.assertIsInstance(right, ast.Constant, (name, node.lineno))
                # A class with an operator or with its own == bars them from sum, any, all and the like.
                self.assertNotIsInstance(node, ast.GeneratorExp, name)

    def test_sums_in_texts_of_objects(self):
        for name, tree in trees():
            self.assertEqual(list(bare_sums(tree)), [], name)

    def test_that_such_sums_are_seen(self):
        for told, seen in (
            ('return f"{len(a) + len(b)} entries"', True),
            ("return str(a + b)", True),
            ('return "a" + b', True),
            ('return "a" + str(self.n) + f"{self.n}"', False),
            ('return ", ".join(a) + "b" + repr(b)', False),
            ('return f"{self.n} entries"', False),
        ):
            tree = ast.parse("class Box:\n    def __repr__(self):\n        " + told)
            self.assertEqual(list(bare_sums(tree)) != [], seen, told)

    def test_stars(self):
        # In lists, tuples and calls, only names, attributes and literals stand behind a star.
        for name, tree in trees():
            for node in ast.walk(tree):
                if isinstance(node, ast.Starred) and isinstance(node.ctx, ast.Load):
                    self.assertIsInstance(node.value, (ast.Name, ast.Attribute, ast.List, ast.Tuple), (name, node.lineno))

    def test_iterated_at_once(self):
        views = ("zip", "enumerate", "reversed", "range", "items", "keys", "values")
        takers = ("list", "tuple", "dict", "sorted", "sum", "any", "all", "enumerate", "zip", "min", "max", "join")
        for name, tree in trees():
            held = parents(tree)
            for node in ast.walk(tree):
                if isinstance(node, ast.Call) and called_name(node) in views:
                    holder = held[node]
                    at_once = isinstance(holder, (ast.For, ast.comprehension)) and holder.iter is node
                    taken = isinstance(holder, ast.Call) and called_name(holder) in takers and holder.args[0] is node
                    self.assertTrue(at_once or taken, (name, node.lineno))

    def test_generators(self):
        found = []
        for name, tree in trees():
            for node in ast.walk(tree):
                if isinstance(node, ast.FunctionDef) and any(isinstance(part, ast.Yield) for part in ast.walk(node)):
                    found.append(node.name)
        for name, tree in trees():
            for bound in bound_names(tree):
                self.assertTrue(bound not in found or name == "ways.py", (name, bound))
            for node in ast.walk(tree):
                if isinstance(node, ast.FunctionDef) and node.name in found:
                    self.assertEqual(name, "ways.py")
                self.assertFalse(isinstance(node, ast.Name) and node.id in found, name)

    def test_finally_and_handlers(self):
        for name, tree in trees():
            for node in ast.walk(tree):
                if isinstance(node, ast.Try):
                    for part in node.finalbody:
                        self.assertIsInstance(part, ast.Assign, (name, part.lineno))
                        self.assertIsInstance(part.value, (ast.Constant, ast.Name, ast.Attribute), (name, part.lineno))
                if isinstance(node, ast.ExceptHandler):
                    kinds = node.type.elts if isinstance(node.type, ast.Tuple) else [node.type]
                    own = [part.name for other, tree in trees() if other == "errors.py" for part in tree.body
                           if isinstance(part, ast.ClassDef)]
                    for kind in kinds:
                        self.assertIn(kind.id, own, (name, node.lineno))

    def test_tables_are_only_read(self):
        for name, tree in trees():
            tables = {target.id for part in tree.body if isinstance(part, ast.Assign) for target in part.targets
                      if isinstance(part.value, (ast.Dict, ast.List))}
            tables |= {alias.asname or alias.name for part in tree.body if isinstance(part, ast.ImportFrom)
                       for alias in part.names if alias.name.isupper()}
            held = parents(tree)
            for node in ast.walk(tree):
                if isinstance(node, ast.Name) and node.id in tables and isinstance(node.ctx, ast.Load):
                    holder = held[node]
                    if isinstance(holder, ast.Subscript):
                        self.assertIsInstance(holder.ctx, ast.Load, (name, node.lineno))
                        # A function of a table is given a name before it is called.
                        self.assertFalse(isinstance(held[holder], ast.Call) and held[holder].func is holder)
                    elif isinstance(holder, ast.Attribute):
                        self.assertEqual(holder.attr, "get", (name, node.lineno))

    def test_what_is_asked_changes_nothing(self):
        changing = ("append", "clear", "extend", "insert", "pop", "remove", "reverse", "setdefault", "update", "add", "discard",
                    "sort", "take", "back", "forth")
        for name, tree in trees():
            for node in ast.walk(tree):
                if isinstance(node, ast.FunctionDef) and not is_setter(node) and (
                        node.name in DOUBLE - {"__init__"} or [getattr(mark, "id", "") for mark in node.decorator_list] == ["property"]):
                    for part in ast.walk(node):
                        self.assertFalse(isinstance(part, (ast.Attribute, ast.Subscript)) and isinstance(part.ctx, ast.Store))
                        self.assertFalse(isinstance(part, ast.Attribute) and part.attr in changing, (name, part))
                        self.assertNotIsInstance(part, (ast.Delete, ast.Nonlocal, ast.AugAssign), name)

    def test_ends_of_texts_and_lengths(self):
        for name, tree in trees():
            for node in ast.walk(tree):
                if isinstance(node, ast.FunctionDef) and node.name in ("__len__", "__str__", "__repr__"):
                    self.assertIsInstance(node.body[-1], ast.Return, name)
                    for part in ast.walk(node):
                        if isinstance(part, ast.Return) and node.name == "__len__":
                            self.assertEqual(called_name(part.value), "len", name)
                        elif isinstance(part, ast.Return):
                            self.assertTrue(is_plainly_text(part.value), name)

    def test_attributes_that_are_read_are_assigned(self):
        stored, methods = set(), set()
        for name, tree in trees():
            for node in ast.walk(tree):
                if isinstance(node, ast.Attribute) and isinstance(node.ctx, ast.Store):
                    stored.add(node.attr)
                if isinstance(node, ast.ClassDef):
                    methods |= {part.name for part in node.body if isinstance(part, ast.FunctionDef)}
                    methods |= {part.targets[0].id for part in node.body if isinstance(part, ast.Assign)}
        for name, tree in trees():
            held = parents(tree)
            for node in ast.walk(tree):
                if isinstance(node, ast.Attribute) and isinstance(node.ctx, ast.Load) and node.attr not in stored | methods:
                    self.assertTrue(isinstance(held[node], ast.Call) and node.attr in VALUE_METHODS or node.attr == "setter",
                                    (name, node.attr))

    def test_no_circles_of_imports(self):
        needs = {"pileports." + name[:-3]: {node.module for node in ast.walk(tree) if isinstance(node, ast.ImportFrom)}
                 for name, tree in trees()}
        while needs:
            free = [name for name, others in needs.items() if not others & set(needs)]
            self.assertNotEqual(free, [], needs)
            needs = {name: others for name, others in needs.items() if name not in free}

    def test_operators_change_nothing_of_others(self):
        # In the files that operators with work of their own use, each list that is added to or taken from is made in
        # that very function.
        used = ("words.py", "forms.py", "tables.py", "moves.py", "places.py", "numbers.py")
        for name, tree in trees():
            for node in ast.walk(tree):
                if isinstance(node, ast.FunctionDef) and name in used:
                    made = {target.id for part in ast.walk(node) if isinstance(part, ast.Assign)
                            and isinstance(part.value, (ast.List, ast.Dict, ast.ListComp, ast.Call))
                            for target in part.targets if isinstance(target, ast.Name)}
                    for part in ast.walk(node):
                        if isinstance(part, ast.Attribute) and part.attr in ("append", "extend", "pop", "clear", "insert"):
                            self.assertIn(part.value.id, made, (name, part.lineno))
                        if isinstance(part, ast.Subscript) and isinstance(part.ctx, ast.Store):
                            self.assertIn(part.value.id, made, (name, part.lineno))
                        if isinstance(part, ast.Attribute) and isinstance(part.ctx, ast.Store):
                            self.assertEqual((node.name, part.value.id), ("__init__", "self"), (name, part.lineno))

    def test_sizes_and_characters(self):
        for path in FOLDER.glob("**/*.py"):
            text = path.read_text(encoding="utf-8")
            lines = text.split("\n")
            self.assertLessEqual(len(lines), 400, path.name)
            self.assertTrue(text.endswith("\n"), path.name)
            for line in lines:
                self.assertLessEqual(len(line), 120, path.name)
                self.assertRegex(line, r"^[ -~]*\Z", path.name)
            self.assertIsNone(BARRED_WORDS.search(text), path.name)
            for node in ast.walk(ast.parse(text)):
                if isinstance(node, ast.FunctionDef):
                    self.assertLessEqual(node.end_lineno - node.lineno + 1, 40, node.name)


if __name__ == "__main__":
    unittest.main()
