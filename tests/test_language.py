"""The rules of the language that can be seen by looking at the files."""

import ast
import builtins
import pathlib
import re
import unittest

PACKAGE = pathlib.Path(__file__).resolve().parent.parent / "wordbench"
BUILTINS = set(
    "len range enumerate zip min max sum abs sorted reversed int str bool bytes list tuple dict set isinstance ord repr"
    " any all divmod iter next Exception ValueError TypeError KeyError IndexError LookupError ZeroDivisionError"
    " ArithmeticError OverflowError RuntimeError NotImplementedError AttributeError StopIteration NotImplemented"
    " super property staticmethod classmethod".split()
)
DOUBLE = set("__init__ __eq__ __repr__ __str__ __len__ __enter__ __exit__ __call__ __iter__".split())
BUILTIN_METHODS = set(
    "append clear copy count endswith extend find get index insert isalnum isalpha isdigit islower isspace isupper items"
    " join keys ljust lower lstrip partition pop remove replace reverse rfind rjust rpartition rsplit rstrip setdefault"
    " split splitlines startswith strip update upper values zfill bit_length title capitalize swapcase casefold center"
    " expandtabs removeprefix removesuffix rindex isascii isdecimal isnumeric istitle isidentifier isprintable translate"
    " encode decode hex add discard __init__".split()
)
BARRED_WORDS = set(
    "type typing typing_extensions enum Enum IntEnum StrEnum Flag IntFlag Generic Protocol ABC ABCMeta namedtuple"
    " NamedTuple TypedDict TYPE_CHECKING abstractmethod".split()
)
BARRED_NAMES = set(
    "register mro elements open input version_info with_traceback add_note attrgetter breakpoint builtins compile"
    " copyright credits delattr dir eval exec exit gc getattr globals hasattr help id importlib license locals"
    " methodcaller os quit setattr type vars sys chr".split()
)
BARRED_NODES = (
    ast.Global, ast.AsyncFunctionDef, ast.AsyncFor, ast.AsyncWith, ast.Await, ast.Import, ast.Div, ast.MatMult,
    ast.MatchClass, ast.MatchMapping,
)


def sources():
    return sorted(PACKAGE.glob("*.py"))


def nodes_of(kinds):
    for path in sources():
        for node in ast.walk(ast.parse(path.read_text())):
            if isinstance(node, kinds):
                yield path.name, node


def functions_of(tree):
    return [node for node in ast.walk(tree) if isinstance(node, ast.FunctionDef)]


def module_names(tree):
    """Each name that a file binds at module level, but those that it imports."""
    found = {node.name for node in tree.body if isinstance(node, (ast.FunctionDef, ast.ClassDef))}
    return found | {each.id for node in tree.body if isinstance(node, ast.Assign) for each in node.targets}


def bound_names():
    """Each name that a file binds, but methods and attributes."""
    for path in sources():
        tree = ast.parse(path.read_text())
        methods = {id(each) for node in ast.walk(tree) if isinstance(node, ast.ClassDef) for each in node.body}
        for node in ast.walk(tree):
            if isinstance(node, ast.arg):
                yield path.name, node.arg
            if isinstance(node, ast.Name) and isinstance(node.ctx, ast.Store):
                yield path.name, node.id
            if isinstance(node, (ast.FunctionDef, ast.ClassDef)) and id(node) not in methods:
                yield path.name, node.name
            if isinstance(node, ast.ExceptHandler) and node.name:
                yield path.name, node.name


class Files(unittest.TestCase):
    def test_there_are_only_plain_files(self):
        self.assertIn("__init__.py", [path.name for path in sources()])
        for path in PACKAGE.iterdir():
            if path.name != "__pycache__":
                self.assertRegex(path.name, r"\A(__init__|__main__|[a-z][a-z0-9_]*)\.py\Z")

    def test_sizes_and_signs(self):
        for path in sources():
            text = path.read_text()
            with self.subTest(path.name):
                self.assertLessEqual(len(text.splitlines()), 400)
                self.assertLessEqual(max(len(line) for line in text.splitlines()), 120)
                self.assertRegex(text, r"\A[ -~\n]*\Z")
                for node in functions_of(ast.parse(text)):
                    self.assertLessEqual(node.end_lineno - node.lineno + 1, 40, node.name)

    def test_barred_words(self):
        for path in sources():
            words = re.findall(r"\w+", path.read_text())
            with self.subTest(path.name):
                self.assertEqual(BARRED_WORDS & set(words), set())
                self.assertFalse([word for word in words if re.search("dataclass|overload|contextmanager", word)])


class Code(unittest.TestCase):
    def test_imports(self):
        modules = {f"wordbench.{path.stem}" for path in sources()}
        for name, node in nodes_of(ast.ImportFrom):
            with self.subTest(f"{name}:{node.lineno}"):
                self.assertEqual(node.level, 0)
                self.assertIn(node.module, modules)
                self.assertNotIn("*", [alias.name for alias in node.names])
                self.assertEqual(node.col_offset, 0)

    def test_each_name_is_imported_from_the_file_that_defines_it(self):
        defined = {f"wordbench.{path.stem}": module_names(ast.parse(path.read_text())) for path in sources()}
        for name, node in nodes_of(ast.ImportFrom):
            for alias in node.names:
                self.assertIn(alias.name, defined[node.module], f"{name}:{node.lineno}")

    def test_no_two_files_import_from_each_other(self):
        wanted = {f"wordbench.{path.stem}": set() for path in sources()}
        for name, node in nodes_of(ast.ImportFrom):
            wanted[f"wordbench.{name[:-3]}"].add(node.module)
        while wanted:
            free = [name for name, others in wanted.items() if not others & set(wanted)]
            self.assertTrue(free, wanted)
            for name in free:
                del wanted[name]

    def test_no_local_name_is_that_of_an_import_or_a_class(self):
        for path in sources():
            tree = ast.parse(path.read_text())
            taken = {alias.name for node in tree.body if isinstance(node, ast.ImportFrom) for alias in node.names}
            taken |= {node.name for node in tree.body if isinstance(node, ast.ClassDef)}
            for function in functions_of(tree):
                stored = {node.id for node in ast.walk(function) if isinstance(node, ast.Name) and isinstance(node.ctx, ast.Store)}
                stored |= {node.arg for node in ast.walk(function) if isinstance(node, ast.arg)}
                self.assertEqual(stored & taken, set(), f"{path.name}: {function.name}")

    def test_each_attribute_that_is_read_is_set_or_is_a_method(self):
        methods = {each.name for _, node in nodes_of(ast.ClassDef) for each in functions_of(node)}
        stored = {node.attr for _, node in nodes_of(ast.Attribute) if isinstance(node.ctx, ast.Store)}
        for name, node in nodes_of(ast.Attribute):
            self.assertIn(node.attr, methods | stored | BUILTIN_METHODS, f"{name}:{node.lineno}")

    def test_barred_statements_and_signs(self):
        self.assertEqual([(name, node.__class__.__name__) for name, node in nodes_of(BARRED_NODES)], [])

    def test_plain_values(self):
        for name, node in nodes_of(ast.Constant):
            with self.subTest(f"{name}:{node.lineno}"):
                self.assertNotIsInstance(node.value, (float, complex))
                if isinstance(node.value, str):
                    self.assertNotIn("%", node.value)

    def test_builtins(self):
        for name, node in nodes_of(ast.Name):
            if node.id in vars(builtins):
                self.assertIn(node.id, BUILTINS, f"{name}:{node.lineno}")

    def test_names_that_are_bound(self):
        for file, name in bound_names():
            with self.subTest(f"{file}: {name}"):
                self.assertRegex(name, r"\A[A-Za-z][A-Za-z0-9_]*\Z")
                self.assertNotIn(name, vars(builtins))
                self.assertNotIn(name, BARRED_NAMES)

    def test_attributes_and_methods_have_plain_names(self):
        for name, node in nodes_of(ast.Attribute):
            with self.subTest(f"{name}:{node.lineno}"):
                self.assertTrue(node.attr == "__init__" or not node.attr.startswith("_"), node.attr)

    def test_double_underscore_methods(self):
        for name, node in nodes_of(ast.FunctionDef):
            if node.name.startswith("_"):
                self.assertIn(node.name, DOUBLE, f"{name}:{node.lineno}")

    def test_no_name_is_a_method_here_and_an_attribute_there(self):
        methods = {each.name for _, node in nodes_of(ast.ClassDef) for each in functions_of(node)}
        stored = {node.attr for _, node in nodes_of(ast.Attribute) if isinstance(node.ctx, ast.Store)}
        self.assertEqual(methods & stored, set())

    def test_methods_that_are_called(self):
        own = {each.name for _, node in nodes_of(ast.ClassDef) for each in functions_of(node)}
        for name, node in nodes_of(ast.Call):
            if isinstance(node.func, ast.Attribute):
                self.assertIn(node.func.attr, own | BUILTIN_METHODS, f"{name}:{node.lineno}")

    def test_errors_that_are_caught(self):
        own = {node.name for name, node in nodes_of(ast.ClassDef) if name == "errors.py"}
        for name, node in nodes_of(ast.ExceptHandler):
            kinds = node.type.elts if isinstance(node.type, ast.Tuple) else [node.type]
            for kind in kinds:
                self.assertIn(kind.id, own | {"KeyError", "ZeroDivisionError"}, f"{name}:{node.lineno}")

    def test_errors_are_made_where_they_are_raised(self):
        own = {node.name for name, node in nodes_of(ast.ClassDef) if name == "errors.py"}
        for name, node in nodes_of(ast.Raise):
            if node.exc is not None:
                self.assertIn(ast.unparse(node.exc).partition("(")[0], own, f"{name}:{node.lineno}")
                self.assertIsInstance(node.exc, ast.Call, f"{name}:{node.lineno}")

    def test_a_caught_error_is_asked_for_its_fields_alone(self):
        for name, node in nodes_of(ast.ExceptHandler):
            reads = [each for each in ast.walk(node) if isinstance(each, ast.Name) and each.id == node.name]
            fields = [each for each in ast.walk(node) if isinstance(each, ast.Attribute) and ast.unparse(each.value) == node.name]
            self.assertEqual(len(reads), len(fields), f"{name}:{node.lineno}")

    def test_what_is_iterated_at_once_is_not_kept(self):
        for name, node in nodes_of((ast.Assign, ast.Return)):
            kept = [node.value.body, node.value.orelse] if isinstance(node.value, ast.IfExp) else [node.value]
            for call in kept:
                if isinstance(call, ast.Call):
                    made = call.func.attr if isinstance(call.func, ast.Attribute) else call.func.id
                    self.assertNotIn(made, ("range", "zip", "enumerate", "reversed", "items", "keys", "values", "set"), f"{name}:{node.lineno}")

    def test_is_stands_beside_none_true_and_false_alone(self):
        for name, node in nodes_of(ast.Compare):
            for sign, right in zip(node.ops, node.comparators):
                if isinstance(sign, (ast.Is, ast.IsNot)):
                    self.assertIn(ast.unparse(right), ("None", "True", "False"), f"{name}:{node.lineno}")

    def test_any_and_all_take_lists(self):
        for name, node in nodes_of(ast.Call):
            if isinstance(node.func, ast.Name) and node.func.id in ("any", "all", "min", "max", "sum", "sorted"):
                self.assertFalse([each for each in node.args if isinstance(each, ast.GeneratorExp)], name)


if __name__ == "__main__":
    unittest.main()
