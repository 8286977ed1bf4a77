"""The package's form: the rules of LANGUAGE.md that can be seen in the written code."""

import ast
import pathlib
import re
import unittest

PACKAGE = pathlib.Path(__file__).resolve().parent.parent / "safegrants"

OWN = (
    "len range enumerate zip min max sum abs sorted reversed int str bool list tuple dict set frozenset isinstance "
    "ord repr any all divmod Exception ValueError TypeError KeyError IndexError LookupError ZeroDivisionError "
    "ArithmeticError OverflowError RuntimeError NotImplementedError AttributeError StopIteration"
).split()

METHODS = (
    "append clear copy count endswith extend find get index insert isalnum isalpha isdigit islower isspace isupper "
    "items join keys ljust lower lstrip partition pop remove replace reverse rfind rjust rpartition rsplit rstrip "
    "setdefault split splitlines startswith strip update upper values zfill bit_length"
).split()

NODES = (
    "Module Expr Constant ImportFrom alias FunctionDef arguments arg ClassDef Assign AugAssign If While For Return "
    "Break Continue Pass Raise Try ExceptHandler Call Name Attribute Subscript Slice List Tuple Dict ListComp "
    "comprehension BinOp UnaryOp BoolOp Compare IfExp Lambda JoinedStr FormattedValue keyword Load Store "
    "Add Sub Mult FloorDiv Mod Pow LShift RShift BitOr BitAnd BitXor Invert USub Not And Or "
    "Eq NotEq Lt LtE Gt GtE Is IsNot In NotIn"
).split()

WORDS = (
    "type typing typing_extensions enum Enum IntEnum StrEnum Flag IntFlag Generic Protocol ABC ABCMeta namedtuple "
    "NamedTuple TypedDict TYPE_CHECKING abstractmethod"
).split()

NOT_USED = (
    "register mro elements open input version_info with_traceback add_note attrgetter breakpoint builtins compile "
    "copyright credits delattr dir eval exec exit gc getattr globals hasattr help id importlib license locals "
    "methodcaller os quit setattr super type vars sys print chr format format_map"
).split()

PYTHONS_OWN = dir(__builtins__) if not isinstance(__builtins__, dict) else list(__builtins__)


def files():
    return sorted(PACKAGE.glob("*.py"))


def trees():
    return [(path.name, ast.parse(path.read_text(encoding="utf-8"))) for path in files()]


def each_node():
    return [(name, node) for name, tree in trees() for node in ast.walk(tree)]


def bound_names(tree):
    """Each name that the file binds, with the row."""
    found = []
    for node in ast.walk(tree):
        if isinstance(node, (ast.FunctionDef, ast.ClassDef)):
            found.append((node.name, node.lineno))
        elif isinstance(node, ast.arg):
            found.append((node.arg, node.lineno))
        elif isinstance(node, ast.Name) and isinstance(node.ctx, ast.Store):
            found.append((node.id, node.lineno))
        elif isinstance(node, ast.alias):
            found.append((node.asname or node.name, node.lineno))
    return found


def locals_of(tree):
    """Parameters and locals of all defs, with the row."""
    found = []
    for top in tree.body:
        if isinstance(top, (ast.FunctionDef, ast.ClassDef)):
            for node in ast.walk(top):
                if isinstance(node, ast.arg):
                    found.append((node.arg, node.lineno))
                elif isinstance(node, ast.Name) and isinstance(node.ctx, ast.Store):
                    found.append((node.id, node.lineno))
    return found


class Files(unittest.TestCase):
    def test_only_plain_files(self):
        self.assertTrue((PACKAGE / "__init__.py").is_file())
        self.assertTrue((PACKAGE / "works.py").is_file())
        for path in PACKAGE.iterdir():
            if path.name != "__pycache__":
                self.assertRegex(path.name, r"\A(__init__|[a-z][a-z0-9_]*)\.py\Z")
                self.assertNotIn(path.stem, PYTHONS_OWN + WORDS)
                self.assertFalse(path.stem.startswith("test") or path.stem in ("site", "conftest"))

    def test_signs_and_size(self):
        for path in files():
            text = path.read_bytes().decode("ascii")
            self.assertRegex(text, r"\A[ -~\n]*\Z", path.name)
            rows = text.split("\n")
            self.assertLessEqual(len(rows), 399, path.name)
            self.assertLessEqual(max(len(row) for row in rows), 120, path.name)

    def test_words_that_stand_nowhere(self):
        for path in files():
            text = path.read_text()
            for word in WORDS:
                self.assertIsNone(re.search(r"\b" + word + r"\b", text), (path.name, word))
            self.assertIsNone(re.search("dataclass|overload|contextmanager", text), path.name)


class Names(unittest.TestCase):
    def test_plain(self):
        for name, tree in trees():
            for bound, row in bound_names(tree):
                if bound != "__init__":
                    self.assertRegex(bound, r"\A[A-Za-z][A-Za-z0-9_]*\Z", (name, row))
                    self.assertNotIn(bound, PYTHONS_OWN, (name, row))

    def test_used(self):
        for name, node in each_node():
            if isinstance(node, ast.Name):
                self.assertNotIn(node.id, NOT_USED, (name, node.lineno))
                self.assertFalse(node.id in PYTHONS_OWN and node.id not in OWN, (name, node.lineno, node.id))
            if isinstance(node, ast.Attribute):
                self.assertNotIn(node.attr, NOT_USED, (name, node.lineno))

    def test_locals_hide_nothing_of_the_file(self):
        for name, tree in trees():
            top = [node.name for node in tree.body if isinstance(node, (ast.ClassDef, ast.FunctionDef))]
            for node in tree.body:
                if isinstance(node, ast.ImportFrom):
                    top += [alias.name for alias in node.names]
            for bound, row in locals_of(tree):
                self.assertNotIn(bound, top, (name, row))

    def test_bound_once_at_the_top(self):
        for name, tree in trees():
            bound = []
            for node in tree.body:
                if isinstance(node, (ast.ClassDef, ast.FunctionDef)):
                    bound.append(node.name)
                if isinstance(node, ast.Assign):
                    bound.append(node.targets[0].id)
                if isinstance(node, ast.ImportFrom):
                    bound += [alias.name for alias in node.names]
            self.assertEqual(len(bound), len(set(bound)), name)

    def test_methods_are_own_or_listed(self):
        own = [node.name for name, node in each_node() if isinstance(node, ast.FunctionDef)]
        for name, node in each_node():
            if isinstance(node, ast.Call) and isinstance(node.func, ast.Attribute):
                self.assertIn(node.func.attr, own + METHODS, (name, node.lineno))

    def test_no_name_is_a_method_and_a_value(self):
        methods = {}
        for name, node in each_node():
            if isinstance(node, ast.ClassDef):
                for part in node.body:
                    if isinstance(part, ast.FunctionDef):
                        methods[part.name] = True
        for name, node in each_node():
            if isinstance(node, ast.Attribute) and isinstance(node.ctx, ast.Store):
                self.assertNotIn(node.attr, methods, (name, node.lineno))
                for kind in (str, int, list, dict, set, bytes, tuple):
                    self.assertFalse(hasattr(kind, node.attr), (name, node.lineno))


class Imports(unittest.TestCase):
    def test_own_files_alone_and_from_where_they_are_defined(self):
        defined = {}
        for name, tree in trees():
            module = "safegrants." + name[:-3]
            for node in tree.body:
                if isinstance(node, (ast.ClassDef, ast.FunctionDef)):
                    defined[(module, node.name)] = True
                if isinstance(node, ast.Assign):
                    defined[(module, node.targets[0].id)] = True
        for name, node in each_node():
            if isinstance(node, ast.ImportFrom):
                self.assertEqual(node.level, 0)
                for alias in node.names:
                    self.assertIn((node.module, alias.name), defined, (name, node.lineno))
                    self.assertIsNone(alias.asname)

    def test_no_two_files_draw_from_one_another(self):
        draws = {}
        for name, tree in trees():
            draws["safegrants." + name[:-3]] = [n.module for n in tree.body if isinstance(n, ast.ImportFrom)]
        while draws:
            ready = [module for module in draws if not any(other in draws for other in draws[module])]
            self.assertTrue(ready, draws)
            for module in ready:
                draws.pop(module)

    def test_what_is_drawn_is_used(self):
        for name, tree in trees():
            used = [node.id for node in ast.walk(tree) if isinstance(node, ast.Name)]
            for node in tree.body:
                if isinstance(node, ast.ImportFrom):
                    for alias in node.names:
                        self.assertIn(alias.name, used, name)

    def test_the_interface_stands_in_its_file_alone(self):
        where = [name for name, tree in trees() for node in tree.body if getattr(node, "name", "") == "answers"]
        self.assertEqual(where, ["works.py"])


class Statements(unittest.TestCase):
    def test_only_told_forms(self):
        for name, node in each_node():
            self.assertIn(type(node).__name__, NODES, (name, getattr(node, "lineno", None)))

    def test_the_top_of_a_file(self):
        for name, tree in trees():
            self.assertTrue(ast.get_docstring(tree), name)
            for node in tree.body[1:]:
                self.assertIsInstance(node, (ast.ImportFrom, ast.FunctionDef, ast.ClassDef, ast.Assign), name)
                if isinstance(node, ast.Assign):
                    ast.literal_eval(node.value)

    def test_defs(self):
        for name, node in each_node():
            if isinstance(node, ast.FunctionDef):
                self.assertLessEqual(node.end_lineno - node.lineno + 1, 40, (name, node.name))
                self.assertEqual(node.decorator_list, [], (name, node.name))
                self.assertTrue(ast.get_docstring(node) or node.name == "__init__", (name, node.name))
            if isinstance(node, ast.arguments):
                self.assertIsNone(node.vararg or node.kwarg, name)
                self.assertEqual(node.kwonlyargs + node.posonlyargs, [], name)

    def test_values(self):
        for name, node in each_node():
            if isinstance(node, ast.Constant):
                self.assertIn(type(node.value), (int, str, bool, type(None)), (name, node.lineno))
            if isinstance(node, ast.Assign):
                self.assertEqual(len(node.targets), 1, (name, node.lineno))
            if isinstance(node, ast.ListComp):
                self.assertEqual(len(node.generators), 1, (name, node.lineno))
                self.assertLessEqual(len(node.generators[0].ifs), 1, (name, node.lineno))
            if isinstance(node, (ast.For, ast.While)):
                self.assertEqual(node.orelse, [], (name, node.lineno))
            if isinstance(node, ast.Try):
                self.assertEqual(node.finalbody, [], (name, node.lineno))

    def test_defaults_and_annotations_are_left_out(self):
        for name, node in each_node():
            if isinstance(node, ast.arguments):
                self.assertEqual(node.defaults + node.kw_defaults, [], name)
            if isinstance(node, ast.arg):
                self.assertIsNone(node.annotation, (name, node.lineno))
            if isinstance(node, ast.FunctionDef):
                self.assertIsNone(node.returns, (name, node.lineno))

    def test_one_plain_target(self):
        for name, node in each_node():
            if isinstance(node, ast.Assign):
                self.assertIsInstance(node.targets[0], (ast.Name, ast.Attribute, ast.Subscript), (name, node.lineno))

    def test_keywords(self):
        told = {"sorted": ["key", "reverse"], "min": ["key", "default"], "max": ["key", "default"], "sum": ["start"]}
        told["enumerate"] = ["start"]
        told["zip"] = ["strict"]
        for name, node in each_node():
            if isinstance(node, ast.Call):
                for given in node.keywords:
                    self.assertIn(given.arg, told.get(getattr(node.func, "id", ""), []), (name, node.lineno))

    def test_lambdas_do_not_share_a_row(self):
        rows = [(name, node.lineno) for name, node in each_node() if isinstance(node, ast.Lambda)]
        self.assertEqual(len(rows), len(set(rows)))

    def test_no_sets_and_no_powers(self):
        for name, node in each_node():
            if isinstance(node, ast.Name):
                self.assertNotIn(node.id, ("set", "frozenset"), (name, node.lineno))
            self.assertNotIsInstance(node, (ast.Set, ast.Pow), name)

    def test_no_per_cent_within_a_text(self):
        for name, node in each_node():
            if isinstance(node, ast.Constant) and isinstance(node.value, str):
                self.assertNotIn("%", node.value, (name, node.lineno))

    def test_walked_on_the_spot(self):
        walkers = ("zip", "enumerate", "reversed", "range")
        takers = ("list", "tuple", "dict", "sorted", "sum", "any", "all", "enumerate", "zip", "min", "max")
        for name, tree in trees():
            walked = []
            for node in ast.walk(tree):
                if isinstance(node, (ast.For, ast.comprehension)):
                    walked.append(node.iter)
                if isinstance(node, ast.Call) and getattr(node.func, "id", "") in takers:
                    walked += node.args[:1]
            for node in ast.walk(tree):
                if isinstance(node, ast.Call) and getattr(node.func, "id", "") in walkers:
                    self.assertIn(node, walked, (name, node.lineno))
                if isinstance(node, ast.Call) and getattr(node.func, "attr", "") in ("items", "keys", "values"):
                    self.assertIn(node, walked, (name, node.lineno))

    def test_what_a_loop_walks_is_not_changed_in_it(self):
        changes = ("append", "clear", "extend", "insert", "pop", "remove", "reverse", "setdefault", "update")
        for name, node in each_node():
            if isinstance(node, ast.For):
                walked = [part.id for part in ast.walk(node.iter) if isinstance(part, ast.Name)]
                for part in ast.walk(node):
                    if isinstance(part, ast.Call) and getattr(part.func, "attr", "") in changes:
                        self.assertNotIn(getattr(part.func.value, "id", ""), walked, (name, part.lineno))
                    if isinstance(part, ast.Subscript) and isinstance(part.ctx, ast.Store):
                        self.assertNotIn(getattr(part.value, "id", ""), walked, (name, part.lineno))

    def test_nothing_is_kept_at_the_top_of_a_file(self):
        for name, tree in trees():
            for node in tree.body:
                if isinstance(node, ast.Assign):
                    value = ast.literal_eval(node.value)
                    parts = list(value.values()) if isinstance(value, dict) else value
                    if isinstance(parts, (list, tuple)):
                        self.assertFalse(any(isinstance(part, (list, dict)) for part in parts), (name, node.lineno))

    def test_is_stands_beside_none_true_and_false_alone(self):
        for name, node in each_node():
            if isinstance(node, ast.Compare) and isinstance(node.ops[0], (ast.Is, ast.IsNot)):
                self.assertIsInstance(node.comparators[0], ast.Constant, (name, node.lineno))
                self.assertIn(node.comparators[0].value, (None, True, False), (name, node.lineno))


if __name__ == "__main__":
    unittest.main()
