"""The part of Python that the package keeps to, as far as it can be seen in the files."""

import ast
import builtins
import pathlib
import re
import unittest

FOLDER = pathlib.Path(__file__).resolve().parent.parent / "netcourt"
OWN_NAMES = set("""len range enumerate zip min max sum abs sorted reversed int str bool list tuple dict set frozenset
    isinstance ord repr any all divmod Exception ValueError TypeError KeyError IndexError LookupError
    ZeroDivisionError ArithmeticError OverflowError RuntimeError NotImplementedError AttributeError
    StopIteration""".split())
METHODS = set("""append clear copy count endswith extend find get index insert isalnum isalpha isdigit islower isspace
    isupper items join keys ljust lower lstrip partition pop remove replace reverse rfind rjust rpartition rsplit
    rstrip setdefault split splitlines startswith strip update upper values zfill bit_length""".split())
DUNDERS = {"__init__", "__eq__", "__repr__", "__str__", "__len__"}
NO_WORDS = set("""type typing typing_extensions enum Enum IntEnum StrEnum Flag IntFlag Generic Protocol ABC ABCMeta
    namedtuple NamedTuple TypedDict TYPE_CHECKING abstractmethod""".split())
NO_NAMES = set("""register mro elements open input version_info with_traceback add_note attrgetter breakpoint builtins
    compile copyright credits delattr dir eval exec exit gc getattr globals hasattr help id importlib license locals
    methodcaller os quit setattr super type vars sys chr format format_map""".split())
NODES = set("""Module Import ImportFrom alias FunctionDef arguments arg Lambda ClassDef Assign AugAssign If While For
    Return Break Continue Pass Raise Try ExceptHandler Expr Call keyword Name Load Store Attribute Subscript Slice
    Constant List Tuple Dict Set BinOp UnaryOp BoolOp And Or Not Compare IfExp ListComp comprehension JoinedStr
    FormattedValue Add Sub Mult FloorDiv Mod Pow BitAnd BitOr BitXor LShift RShift USub UAdd Invert Eq NotEq Lt LtE
    Gt GtE Is IsNot In NotIn""".split())


def parsed_files():
    return {path.stem: (path.read_text("utf-8"), ast.parse(path.read_text("utf-8")))
            for path in sorted(FOLDER.glob("*.py"))}


def names_at_the_top(tree):
    names = []
    for node in tree.body:
        if isinstance(node, (ast.FunctionDef, ast.ClassDef)):
            names.append(node.name)
        elif isinstance(node, ast.Assign):
            names += [target.id for target in node.targets]
        elif isinstance(node, ast.ImportFrom):
            names += [alias.name for alias in node.names]
    return names


def names_bound_within(tree):
    for node in ast.walk(tree):
        if isinstance(node, ast.arg):
            yield node.arg
        elif isinstance(node, ast.Name) and isinstance(node.ctx, ast.Store):
            yield node.id


def name_called(node):
    return node.func.id if isinstance(node.func, ast.Name) else None


class TestLanguage(unittest.TestCase):
    def setUp(self):
        self.files = parsed_files()
        self.nodes = [(stem, node) for stem in self.files for node in ast.walk(self.files[stem][1])]

    def nodes_of(self, kind):
        found = [(stem, node) for stem, node in self.nodes if isinstance(node, kind)]
        return [(f"{stem}.py:{getattr(node, 'lineno', 0)}", node) for stem, node in found]

    def test_files_and_signs(self):
        for path in FOLDER.iterdir():
            if path.name != "__pycache__":
                self.assertRegex(path.name, r"^(__init__|__main__|[a-z][a-z0-9_]*)\.py$")
        self.assertIn("__init__", self.files)
        for stem in self.files:
            text = self.files[stem][0]
            self.assertRegex(text, r"\A[ -~\n]*\Z", stem)
            self.assertLessEqual(text.count("\n"), 400, stem)
            self.assertLessEqual(max(len(row) for row in text.split("\n")), 120, stem)
            words = set(re.findall(r"\w+", text))
            self.assertFalse(words & NO_WORDS, stem)
            self.assertIsNone(re.search("dataclass|overload|contextmanager", text), stem)

    def test_nodes(self):
        for stem, node in self.nodes:
            self.assertIn(node.__class__.__name__, NODES, (stem, getattr(node, "lineno", 0)))

    def test_imports(self):
        drawn = {stem: set() for stem in self.files}
        for stem in self.files:
            for node in ast.walk(self.files[stem][1]):
                self.assertNotIsInstance(node, ast.Import, stem)
                if isinstance(node, ast.ImportFrom):
                    self.assertIn(node, self.files[stem][1].body)
                    self.assertEqual((node.level, node.module.split(".")[0]), (0, "netcourt"))
                    source = node.module.split(".")[1]
                    defined = [top for top in self.files[source][1].body if not isinstance(top, ast.ImportFrom)]
                    for alias in node.names:
                        self.assertIsNone(alias.asname)
                        self.assertIn(alias.name, names_at_the_top(ast.Module(defined, [])))
                    drawn[stem].add(source)
        for round_number in drawn:
            drawn = {stem: drawn[stem].union(*[drawn[other] for other in drawn[stem]]) for stem in drawn}
        for stem in drawn:
            self.assertNotIn(stem, drawn[stem])

    def test_the_top_of_a_file(self):
        for stem in self.files:
            tree = self.files[stem][1]
            self.assertTrue(ast.get_docstring(tree), stem)
            for node in tree.body[1:]:
                self.assertIsInstance(node, (ast.ImportFrom, ast.FunctionDef, ast.ClassDef, ast.Assign), stem)
            names = names_at_the_top(tree)
            self.assertEqual(len(names), len(set(names)), stem)
            for name in names_bound_within(ast.Module([top for top in tree.body if hasattr(top, "body")], [])):
                self.assertNotIn(name, names, stem)

    def test_functions(self):
        for where, node in self.nodes_of((ast.FunctionDef, ast.Lambda)):
            given = node.args
            self.assertFalse(given.vararg or given.kwarg or given.kwonlyargs or given.posonlyargs, where)
        for where, node in self.nodes_of(ast.FunctionDef):
            self.assertFalse(node.decorator_list, where)
            self.assertLessEqual(node.end_lineno - node.lineno + 1, 40, where)

    def test_classes(self):
        for where, node in self.nodes_of(ast.ClassDef):
            self.assertFalse(node.decorator_list or node.keywords or len(node.bases) > 1, where)
            for part in node.body:
                self.assertIsInstance(part, (ast.FunctionDef, ast.Pass), where)

    def test_names(self):
        bound = {name for stem in self.files for name in names_at_the_top(self.files[stem][1])}
        bound |= {name for stem in self.files for name in names_bound_within(self.files[stem][1])}
        python_names = set(vars(builtins))
        self.assertFalse(bound & python_names)
        self.assertFalse([name for name in bound if name.startswith("_")])
        for where, node in self.nodes_of(ast.Name):
            self.assertNotIn(node.id, NO_NAMES, where)
            self.assertTrue(node.id in bound | OWN_NAMES, (where, node.id))

    def test_methods_and_values(self):
        methods = {part.name for where, node in self.nodes_of(ast.ClassDef) for part in node.body
                   if isinstance(part, ast.FunctionDef)}
        values = {node.attr for where, node in self.nodes_of(ast.Attribute) if isinstance(node.ctx, ast.Store)}
        self.assertFalse(methods & values)
        called = [node.func for where, node in self.nodes_of(ast.Call)]
        for where, node in self.nodes_of(ast.Attribute):
            self.assertNotIn(node.attr, NO_NAMES, where)
            self.assertTrue(node.attr in methods | values | METHODS, (where, node.attr))
            if node.attr not in values:
                self.assertIn(node, called, (where, node.attr))
        for name in methods | values:
            self.assertTrue(name in DUNDERS or not name.startswith("_"), name)

    def test_what_is_narrow(self):
        for where, node in self.nodes_of(ast.Compare):
            for way, thing in zip(node.ops, node.comparators):
                if isinstance(way, (ast.Is, ast.IsNot)):
                    self.assertTrue(isinstance(thing, ast.Constant) and thing.value in (None, True, False), where)
        for where, node in self.nodes_of(ast.Constant):
            self.assertIsInstance(node.value, (int, str, type(None)), where)
            self.assertFalse(isinstance(node.value, str) and "\u0025" in node.value, where)
        for where, node in self.nodes_of(ast.FormattedValue):
            self.assertTrue(isinstance(node.value, ast.Name) and node.format_spec is None, where)
        for where, node in self.nodes_of(ast.Assign):
            self.assertEqual(len(node.targets), 1, where)
        for where, node in self.nodes_of((ast.For, ast.While, ast.Try)):
            self.assertFalse(not isinstance(node, ast.Try) and node.orelse, where)
            self.assertFalse(isinstance(node, ast.Try) and node.finalbody, where)
        for where, node in self.nodes_of(ast.ListComp):
            self.assertTrue(len(node.generators) == 1 and len(node.generators[0].ifs) <= 1, where)

    def test_what_is_walked_at_once(self):
        taken = set("list tuple dict sorted sum any all enumerate zip min max".split())
        walked = [node.iter for where, node in self.nodes_of((ast.For, ast.comprehension))]
        for where, node in self.nodes_of(ast.Call):
            if name_called(node) in taken or isinstance(node.func, ast.Attribute) and node.func.attr == "join":
                walked += node.args[:1]
        for where, node in self.nodes_of(ast.Call):
            lazy = name_called(node) in ("zip", "enumerate", "reversed", "range")
            if lazy or isinstance(node.func, ast.Attribute) and node.func.attr in ("items", "keys", "values"):
                self.assertIn(node, walked, where)

    def test_sets(self):
        counted = [node.args[0] for where, node in self.nodes_of(ast.Call) if name_called(node) in ("len", "sorted")]
        compared = [part for where, node in self.nodes_of(ast.Compare) for part in [node.left] + node.comparators]
        for where, node in self.nodes_of((ast.Call, ast.Set)):
            if isinstance(node, ast.Set) or name_called(node) in ("set", "frozenset"):
                self.assertIn(node, counted + compared, where)

    def test_what_is_taken_of_pythons_own_errors(self):
        for where, node in self.nodes_of(ast.ExceptHandler):
            self.assertIsInstance(node.type, ast.Name, where)
            self.assertNotIn(node.type.id, ("Exception", "TypeError"), where)


if __name__ == "__main__":
    unittest.main()
