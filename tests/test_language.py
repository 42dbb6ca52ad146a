"""The package keeps to LANGUAGE.md, as far as a reading of its files can tell.

Each check takes the text of a file, reads it as a tree, and returns the lines that break a rule; a sample that
breaks the rule stands beside the check, so that a check that sees nothing fails too.
"""

import ast
import builtins
import pathlib
import re
import unittest

PACKAGE = pathlib.Path(__file__).resolve().parent.parent / "arrowtiers"
FILES = sorted(PACKAGE.rglob("*.py"))
ERRORS = (
    "Exception ValueError TypeError KeyError IndexError LookupError ZeroDivisionError ArithmeticError OverflowError"
    " RuntimeError NotImplementedError AttributeError StopIteration NotImplemented"
).split()
BUILTINS = (
    "len range enumerate zip min max sum abs sorted reversed int str bool bytes list tuple dict set frozenset"
    " isinstance ord repr any all divmod property staticmethod classmethod super"
).split() + ERRORS
METHODS = (
    "append clear copy count endswith extend find get index insert isalnum isalpha isdigit islower isspace isupper"
    " items join keys ljust lower lstrip partition pop remove replace reverse rfind rjust rpartition rsplit rstrip"
    " setdefault split splitlines startswith strip update upper values zfill bit_length add discard sort __init__"
).split()
BARRED_WORDS = (
    "type typing typing_extensions enum Enum IntEnum StrEnum Flag IntFlag Generic Protocol ABC ABCMeta namedtuple"
    " NamedTuple TypedDict TYPE_CHECKING abstractmethod"
).split()
BARRED_NAMES = (
    "register mro elements open input version_info with_traceback add_note attrgetter breakpoint compile copyright"
    " credits delattr dir eval exec exit gc getattr globals hasattr help id importlib license locals methodcaller os"
    " quit setattr vars sys format format_map chr print"
).split()
CHANGING = "append clear extend insert pop remove reverse setdefault update sort add discard".split()
FUNCTIONS = (ast.FunctionDef, ast.Lambda)


def lines(tree, test):
    return [node.lineno for node in ast.walk(tree) if test(node)]


def own_names(tree, kinds):
    return {node.name for node in ast.walk(tree) if isinstance(node, kinds)}


def methods_of(tree):
    classes = [node for node in ast.walk(tree) if isinstance(node, ast.ClassDef)]
    return {row.name for node in classes for row in node.body if isinstance(row, ast.FunctionDef)}


def attributes_of(tree):
    return {node.attr for node in ast.walk(tree) if isinstance(node, ast.Attribute) and isinstance(node.ctx, ast.Store)}


def bound_names(tree):
    """Every name that the file gives a meaning, with its line."""
    bound = []
    for node in ast.walk(tree):
        if isinstance(node, ast.Name) and not isinstance(node.ctx, ast.Load):
            bound.append((node.id, node.lineno))
        elif isinstance(node, (ast.FunctionDef, ast.ClassDef)):
            bound.append((node.name, node.lineno))
        elif isinstance(node, ast.arg):
            bound.append((node.arg, node.lineno))
    return bound


def imported_names(tree):
    return {name.asname or name.name for node in tree.body if isinstance(node, ast.ImportFrom) for name in node.names}


def is_plain(node):
    if isinstance(node, ast.UnaryOp):
        return is_plain(node.operand)
    if isinstance(node, (ast.List, ast.Tuple)):
        return all(is_plain(item) for item in node.elts)
    if isinstance(node, ast.Dict):
        return all(is_plain(item) for item in node.keys + node.values)
    return isinstance(node, (ast.Constant, ast.Name))


def wrong_imports(text, tree):
    def wrong(node):
        if isinstance(node, ast.Import):
            return True
        return isinstance(node, ast.ImportFrom) and (node.level > 0 or not node.module.startswith("arrowtiers."))
    return lines(tree, wrong)


def wrong_module_level(text, tree):
    def fits(node):
        if isinstance(node, ast.Expr):
            return isinstance(node.value, ast.Constant) and isinstance(node.value.value, str)
        if isinstance(node, ast.Assign):
            return len(node.targets) == 1 and isinstance(node.targets[0], ast.Name) and is_plain(node.value)
        return isinstance(node, (ast.ImportFrom, ast.FunctionDef, ast.ClassDef))
    return [node.lineno for node in tree.body if not fits(node)]


def wrong_statements(text, tree):
    barred = (ast.Global, ast.AsyncFunctionDef, ast.AsyncFor, ast.AsyncWith, ast.Await, ast.TryStar)
    return lines(tree, lambda node: isinstance(node, barred))


def wrong_values(text, tree):
    def wrong(node):
        if isinstance(node, ast.Constant):
            return isinstance(node.value, (float, complex)) or (isinstance(node.value, str) and "%" in node.value)
        return isinstance(node, (ast.BinOp, ast.AugAssign)) and isinstance(node.op, ast.Div)
    return lines(tree, wrong)


def wrong_sizes(text, tree):
    rows = text.split("\n")
    long = [at for at, row in enumerate(rows, 1) if len(row) > 120 or at > 400]
    return long + lines(tree, lambda node: isinstance(node, ast.FunctionDef) and node.end_lineno - node.lineno >= 40)


def wrong_signs(text, tree):
    rows = text.split("\n")
    return [at for at, row in enumerate(rows, 1) if any(not " " <= sign <= "~" for sign in row)]


def wrong_builtins(text, tree):
    def wrong(node):
        known = isinstance(node, ast.Name) and hasattr(builtins, node.id)
        return known and (node.id not in BUILTINS or not isinstance(node.ctx, ast.Load))
    return lines(tree, wrong)


def wrong_names(text, tree):
    methods = methods_of(tree)
    taken = imported_names(tree) | own_names(tree, ast.ClassDef)
    found = []
    for name, line in bound_names(tree):
        dunder = name in methods and name.startswith("__") and name.endswith("__")
        hides = hasattr(builtins, name) and name not in methods
        if (name.startswith("_") and not dunder) or hides or name in BARRED_NAMES:
            found.append(line)
    stored = [node for node in ast.walk(tree) if isinstance(node, ast.Name) and not isinstance(node.ctx, ast.Load)]
    parameters = [node for node in ast.walk(tree) if isinstance(node, ast.arg)]
    found += [node.lineno for node in stored if node.id in taken]
    return found + [node.lineno for node in parameters if node.arg in taken]


def wrong_twice(text, tree):
    found, seen = [], set()
    for node in tree.body:
        names = [node.name] if isinstance(node, (ast.FunctionDef, ast.ClassDef)) else []
        names += [name.id for name in getattr(node, "targets", [])]
        names += [name.asname or name.name for name in node.names] if isinstance(node, ast.ImportFrom) else []
        found += [node.lineno for name in names if name in seen]
        seen.update(names)
    return found


def wrong_words(text, tree):
    barred = re.compile(rf"\b({'|'.join(BARRED_WORDS)})\b|dataclass|overload|contextmanager")
    return [at for at, row in enumerate(text.split("\n"), 1) if barred.search(row)]


def wrong_is(text, tree):
    def wrong(node):
        if not isinstance(node, ast.Compare) or not isinstance(node.ops[0], (ast.Is, ast.IsNot)):
            return False
        other = node.comparators[0]
        return not (isinstance(other, ast.Constant) and other.value in (None, True, False))
    return lines(tree, wrong)


def wrong_catches(text, tree):
    def wrong(node):
        if not isinstance(node, ast.ExceptHandler):
            return False
        return node.type is None or (isinstance(node.type, ast.Name) and node.type.id in ("Exception", "TypeError"))
    return lines(tree, wrong)


def wrong_raises(text, tree):
    def wrong(node):
        if not isinstance(node, ast.Raise) or node.exc is None:
            return False
        return not (isinstance(node.exc, ast.Call) and isinstance(node.exc.func, ast.Name))
    return lines(tree, wrong)


def wrong_escapes(text, tree):
    return [at for at, row in enumerate(text.split("\n"), 1) if re.search(r"\\[^nt\\'\"]", row)]


def wrong_defaults(text, tree):
    def wrong(node):
        if not isinstance(node, FUNCTIONS):
            return False
        given = node.args.defaults + [value for value in node.args.kw_defaults if value is not None]
        return bool(node.args.posonlyargs) or any(isinstance(value, (ast.List, ast.Dict, ast.Set)) for value in given)
    return lines(tree, wrong)


def is_iterated_at_once(node):
    if not isinstance(node, ast.Call):
        return False
    if isinstance(node.func, ast.Name):
        return node.func.id in ("zip", "enumerate", "reversed", "range")
    return isinstance(node.func, ast.Attribute) and node.func.attr in ("items", "keys", "values")


def wrong_stored(text, tree):
    def wrong(node):
        if isinstance(node, (ast.Assign, ast.AugAssign, ast.Return)):
            return is_iterated_at_once(node.value)
        return isinstance(node, (ast.List, ast.Tuple)) and any(is_iterated_at_once(item) for item in node.elts)
    return lines(tree, wrong)


def is_set(node):
    if isinstance(node, ast.Call):
        return isinstance(node.func, ast.Name) and node.func.id in ("set", "frozenset")
    return isinstance(node, (ast.Set, ast.SetComp))


def wrong_sets(text, tree):
    """Sets that are iterated, told or put into something, under whatever name the function gives them."""
    found = []
    for function in [node for node in ast.walk(tree) if isinstance(node, ast.FunctionDef)]:
        rows = list(ast.walk(function))
        stored = {row.targets[0].id for row in rows if isinstance(row, ast.Assign) and is_set(row.value)}
        for node in rows:
            used = [node.iter] if isinstance(node, (ast.For, ast.comprehension)) else []
            used += [node.value] if isinstance(node, ast.Return) else []
            used += node.elts if isinstance(node, (ast.List, ast.Tuple)) else []
            found += [item.lineno for item in used if is_set(item)]
            found += [item.lineno for item in used if isinstance(item, ast.Name) and item.id in stored]
    return found


def wrong_loops(text, tree):
    """Loops that alter the very list or dict that they go through."""
    found = []
    for loop in [node for node in ast.walk(tree) if isinstance(node, ast.For)]:
        gone_through = {node.id for node in ast.walk(loop.iter) if isinstance(node, ast.Name)}
        for node in [part for row in loop.body for part in ast.walk(row)]:
            changed = None
            if isinstance(node, ast.Subscript) and not isinstance(node.ctx, ast.Load):
                changed = node.value
            elif isinstance(node, ast.Attribute) and node.attr in CHANGING:
                changed = node.value
            if isinstance(changed, ast.Name) and changed.id in gone_through:
                found.append(node.lineno)
    return found


CHECKS = (
    (wrong_imports, "import os\n", "from .errors import NoNet\n", "from os import path\n"),
    (wrong_module_level, "list()\n", "A = len('a')\n", "for k in (1, 2):\n    pass\n"),
    (wrong_statements, "def f():\n    global a\n", "async def f():\n    pass\n"),
    (wrong_values, "A = 1.5\n", "def f(a):\n    return a / 2\n", "A = '10%'\n"),
    (wrong_sizes, "#" * 121, "\n" * 400, "def f():\n" + "    pass\n" * 40),
    (wrong_signs, "# caf\u00e9\n", "\tpass\n"),
    (wrong_builtins, "def f(a):\n    return map(a)\n", "def f():\n    return hash(1)\n", "def f():\n    len = 1\n"),
    (wrong_names, "def f(list):\n    pass\n", "def f():\n    _a = 1\n", "class A:\n    pass\ndef f(A):\n    pass\n"),
    (wrong_twice, "A = 1\nA = 2\n", "def f():\n    pass\n\n\ndef f():\n    pass\n"),
    (wrong_words, "# the type of it\n", "A = 'a dataclasses'\n"),
    (wrong_is, "def f(a):\n    return a is 'b'\n", "def f(a, b):\n    return a is not b\n"),
    (wrong_catches, "def f():\n    try:\n        pass\n    except Exception:\n        pass\n",),
    (wrong_raises, "def f(a):\n    raise a\n", "def f(a):\n    raise ValueError\n"),
    (wrong_escapes, "A = '\\x41'\n",),
    (wrong_stored, "def f(a):\n    b = zip(a, a)\n", "def f(a):\n    return a.items()\n", "A = [range(3)]\n"),
    (wrong_sets, "def f(a):\n    for b in set(a):\n        pass\n", "def f():\n    a = set()\n    return a\n"),
    (wrong_loops, "def f(a):\n    for b in a:\n        a.append(b)\n",
     "def f(a):\n    for b, c in enumerate(a):\n        a[b] = 1\n"),
    (wrong_defaults, "def f(a=[]):\n    pass\n", "def f(a, /):\n    pass\n"),
)


class EachFile(unittest.TestCase):
    def test_checks_see_what_is_wrong(self):
        for check, *samples in CHECKS:
            for sample in samples:
                with self.subTest(check=check.__name__, sample=sample):
                    tree = ast.parse(sample) if sample != "\tpass\n" else ast.parse("")
                    self.assertTrue(check(sample, tree))

    def test_files_pass_the_checks(self):
        self.assertTrue(FILES)
        for path in FILES:
            text = path.read_text(encoding="ascii")
            tree = ast.parse(text)
            for check, *samples in CHECKS:
                with self.subTest(check=check.__name__, file=path.name):
                    self.assertEqual(check(text, tree), [])


class TheWhole(unittest.TestCase):
    def setUp(self):
        self.trees = {path.stem: ast.parse(path.read_text(encoding="ascii")) for path in FILES}

    def test_the_folder_has_nothing_else(self):
        found = [path for path in PACKAGE.rglob("*") if "__pycache__" not in path.parts]
        self.assertEqual([path for path in found if path.suffix != ".py"], [])
        for path in found:
            self.assertEqual(path.parent, PACKAGE)
            self.assertRegex(path.name, r"^([a-z][a-z0-9_]*|__init__|__main__)\.py$")

    def imports(self, stem):
        return [node for node in self.trees[stem].body if isinstance(node, ast.ImportFrom)]

    def test_imports_name_the_file_that_defines_the_name(self):
        for stem in self.trees:
            for node in self.imports(stem):
                rows = self.trees[node.module.removeprefix("arrowtiers.")].body
                defined = {row.name for row in rows if isinstance(row, (ast.FunctionDef, ast.ClassDef))}
                defined |= {row.targets[0].id for row in rows if isinstance(row, ast.Assign)}
                self.assertLessEqual({name.name for name in node.names}, defined, stem)

    def test_no_two_files_import_from_each_other(self):
        needs = {stem: {node.module.split(".")[1] for node in self.imports(stem)} for stem in self.trees}
        while needs:
            free = [stem for stem in needs if not needs[stem] & set(needs)]
            self.assertTrue(free, needs)
            needs = {stem: needs[stem] for stem in needs if stem not in free}

    def test_no_name_is_both_a_method_and_an_attribute(self):
        methods = set().union(*[methods_of(tree) for tree in self.trees.values()])
        attributes = set().union(*[attributes_of(tree) for tree in self.trees.values()])
        self.assertEqual(methods & attributes, set())

    def test_only_known_methods_and_attributes_are_read(self):
        known = set(METHODS)
        for tree in self.trees.values():
            known |= methods_of(tree) | attributes_of(tree)
        for stem, tree in self.trees.items():
            read = {node.attr for node in ast.walk(tree) if isinstance(node, ast.Attribute)}
            self.assertEqual(read - known, set(), stem)


if __name__ == "__main__":
    unittest.main()
