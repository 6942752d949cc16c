"""The rules of the language that a short look at the files can check, and where the interface is defined."""

import ast
import builtins
import pathlib
import re
import unittest

PACKAGE = pathlib.Path(__file__).resolve().parent.parent / "suresnap"
FILES = sorted(PACKAGE.rglob("*.py"))
BUILTINS = set("""len range enumerate zip min max sum abs sorted reversed int str bool list tuple dict set frozenset
    isinstance ord repr any all divmod iter next Exception ValueError TypeError KeyError IndexError LookupError
    ZeroDivisionError ArithmeticError OverflowError RuntimeError NotImplementedError StopIteration
    staticmethod""".split())
BARRED = set("""type typing enum Enum IntEnum StrEnum Flag IntFlag Generic Protocol ABC ABCMeta namedtuple NamedTuple
    TypedDict register mro elements open input law version_info with_traceback add_note""".split())
VALUE_METHODS = set("""append clear copy count endswith extend find get index insert isalnum isalpha isdigit islower
    isspace isupper items join keys ljust lower lstrip partition pop remove replace reverse rfind rjust rpartition
    rsplit rstrip setdefault split splitlines startswith strip update upper values zfill bit_length""".split())
INTERFACE = {
    "errors": ("SnapError", "TextError", "Contradiction", "NoSuchChange"),
    "news": ("parse_news", "print_news"),
    "histories": ("times_in", "value_in", "head_of", "agrees"),
    "bounds": ("clashes", "stretches"),
    "tables": ("possible", "first_history"),
    "counts": ("counts", "history_with"),
    "sure": ("sure_value", "true_versions", "newest", "unsure"),
    "papers": ("is_right", "paper"),
    "quarrels": ("quarrel", "against"),
    "client": ("Client",),
}
CLIENT = {
    "hear": ["self", "piece"], "head": ["self"], "counts": ["self", "key", "version"],
    "sure_value": ["self", "key", "version"], "change": ["self", "key", "how", "number"], "open_changes": ["self"],
    "taken": ["self", "change", "version"], "refused": ["self", "change"], "view": ["self", "keys"],
    "state": ["self"], "fork": ["self"], "opened": ["shelf", "state"], "__init__": ["self", "shelf"],
}
LIBRARY = {"itertools": {"combinations"}}
LAZY = {"range", "zip", "enumerate", "reversed", "combinations", "items", "keys", "values"}
TAKERS = set("list tuple dict sorted sum any all enumerate zip min max combinations len".split())


def trees():
    return [(path, ast.parse(path.read_text())) for path in FILES]


def nodes(kind):
    return [(path, node) for path, tree in trees() for node in ast.walk(tree) if isinstance(node, kind)]


class Language(unittest.TestCase):
    def test_files(self):
        self.assertTrue(FILES)
        for path in PACKAGE.rglob("*"):
            if "__pycache__" not in path.parts and path.is_file():
                self.assertRegex(path.name, r"^[a-z_]+\.py$")

    def test_sizes_and_characters(self):
        for path in FILES:
            text = path.read_text()
            self.assertRegex(text, r"\A[\n -~]*\Z")
            self.assertLessEqual(len(text.splitlines()), 399, path)
            self.assertLessEqual(max([len(line) for line in text.splitlines()]), 120, path)
        for path, node in nodes(ast.FunctionDef):
            self.assertLessEqual(node.end_lineno - node.lineno + 1, 40, (path, node.name))

    def test_imports(self):
        for path, node in nodes((ast.Import, ast.ImportFrom)):
            self.assertIsInstance(node, ast.ImportFrom, path)
            names = {name.name for name in node.names}
            self.assertTrue(node.level == 0 and not any(name.asname for name in node.names), path)
            self.assertTrue(node.module.startswith("suresnap.") or names <= LIBRARY.get(node.module, set()), path)
            self.assertNotIn("*", names, path)

    def test_module_level(self):
        allowed = (ast.ImportFrom, ast.FunctionDef, ast.ClassDef, ast.Assign, ast.Expr)
        for path, tree in trees():
            for at, node in enumerate(tree.body):
                self.assertIsInstance(node, allowed, path)
                if isinstance(node, ast.Expr):
                    self.assertTrue(at == 0 and isinstance(node.value, ast.Constant), path)

    def test_names(self):
        for path, node in nodes(ast.Name):
            if isinstance(node.ctx, ast.Load) and hasattr(builtins, node.id):
                self.assertIn(node.id, BUILTINS, path)
            if isinstance(node.ctx, ast.Store):
                self.assertFalse(hasattr(builtins, node.id), (path, node.id))
        for path, node in nodes(ast.arg):
            self.assertFalse(hasattr(builtins, node.arg), (path, node.arg))
        for path, node in nodes((ast.FunctionDef, ast.ClassDef)):
            self.assertNotIn(node.name, BARRED, path)

    def test_no_floats_and_no_percent(self):
        for path, node in nodes(ast.Constant):
            self.assertNotIsInstance(node.value, (float, complex), path)
        for path, node in nodes(ast.BinOp):
            self.assertNotIsInstance(node.op, ast.Div, path)

    def test_only_listed_methods_of_values(self):
        own = {node.name for _, kind in nodes(ast.ClassDef) for node in kind.body if isinstance(node, ast.FunctionDef)}
        self.assertFalse(own & VALUE_METHODS)
        for path, node in nodes(ast.Call):
            if isinstance(node.func, ast.Attribute):
                self.assertIn(node.func.attr, own | VALUE_METHODS, path)

    def test_no_name_is_a_method_and_an_attribute(self):
        own = {node.name for _, kind in nodes(ast.ClassDef) for node in kind.body if isinstance(node, ast.FunctionDef)}
        for path, node in nodes(ast.Attribute):
            if isinstance(node.ctx, ast.Store):
                self.assertNotIn(node.attr, own, path)

    def test_no_parameter_or_variable_has_the_name_of_a_class_or_an_import(self):
        for path, tree in trees():
            barred = {node.name for node in tree.body if isinstance(node, ast.ClassDef)}
            barred |= {name.name for node in tree.body if isinstance(node, ast.ImportFrom) for name in node.names}
            for node in ast.walk(tree):
                if isinstance(node, ast.arg):
                    self.assertNotIn(node.arg, barred, path)
                if isinstance(node, ast.Name) and isinstance(node.ctx, ast.Store):
                    self.assertNotIn(node.id, barred, path)

    def test_what_is_lazy_is_iterated_at_once(self):
        for path, tree in trees():
            good = set()
            for node in ast.walk(tree):
                if isinstance(node, (ast.For, ast.comprehension)):
                    good.add(node.iter)
                if isinstance(node, ast.Call) and name_of(node) in TAKERS:
                    good |= set(node.args)
                if isinstance(node, ast.Call) and name_of(node) in LAZY:
                    self.assertIn(node, good, (path, ast.unparse(node)))

    def test_sets_are_not_iterated(self):
        for path, node in nodes((ast.For, ast.comprehension)):
            self.assertNotIsInstance(node.iter, (ast.Set, ast.SetComp), path)
            self.assertFalse(isinstance(node.iter, ast.Call) and name_of(node.iter) == "set", path)

    def test_no_two_files_import_from_each_other(self):
        wanted = {path.stem: set() for path in FILES}
        for path, node in nodes(ast.ImportFrom):
            if node.module.startswith("suresnap."):
                wanted[path.stem].add(node.module.split(".")[-1])
        while wanted:
            free = [name for name, needed in wanted.items() if not needed & set(wanted)]
            self.assertTrue(free, wanted)
            wanted = {name: needed for name, needed in wanted.items() if name not in free}

    def test_no_barred_words(self):
        for path in FILES:
            tree = ast.parse(path.read_text())
            words = set(re.findall(r"[A-Za-z_]+", ast.unparse(without_docstrings(tree))))
            self.assertFalse(words & BARRED, path)

    def test_interface_is_defined_in_its_file(self):
        for name, wanted in INTERFACE.items():
            tree = ast.parse((PACKAGE / f"{name}.py").read_text())
            defined = [node.name for node in tree.body if isinstance(node, (ast.FunctionDef, ast.ClassDef))]
            for one in wanted:
                self.assertIn(one, defined)

    def test_methods_of_the_client_are_defined_in_it(self):
        kinds = [kind for path, kind in nodes(ast.ClassDef) if kind.name == "Client" and path.stem == "client"]
        methods = {node.name: node for node in kinds[0].body if isinstance(node, ast.FunctionDef)}
        for name, arguments in CLIENT.items():
            self.assertEqual([one.arg for one in methods[name].args.args], arguments, name)
        self.assertEqual([one.id for one in methods["opened"].decorator_list], ["staticmethod"])


def name_of(call):
    """The name of what is called, without what stands in front of it."""
    return call.func.attr if isinstance(call.func, ast.Attribute) else getattr(call.func, "id", None)


def without_docstrings(tree):
    for node in ast.walk(tree):
        if isinstance(node, (ast.Module, ast.ClassDef, ast.FunctionDef)) and ast.get_docstring(node) is not None:
            node.body = node.body[1:] or [ast.Pass()]
    return tree


if __name__ == "__main__":
    unittest.main()
