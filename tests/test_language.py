"""The rules of the language that can be seen in the files of the package, one by one."""

import ast
import pathlib
import re
import unittest
import warnings

PACKAGE = pathlib.Path(__file__).resolve().parent.parent / "strangerspost"

BUILTINS = """len range enumerate zip min max sum abs sorted reversed int str bool bytes list tuple dict set frozenset
isinstance ord repr any all divmod pow getattr hasattr setattr Exception ValueError TypeError KeyError IndexError
LookupError ZeroDivisionError ArithmeticError OverflowError RuntimeError NotImplementedError AttributeError
StopIteration NotImplemented iter next map type super property staticmethod classmethod""".split()

LIBRARY = ("heapq", "math", "itertools", "collections")

DOUBLE = """__init__ __eq__ __repr__ __str__ __len__ __enter__ __exit__ __call__ __iter__ __lt__ __le__ __gt__ __ge__
__ne__ __add__ __sub__ __mul__ __floordiv__ __mod__ __contains__ __getitem__ __setitem__ __bool__ __slots__""".split()

METHODS = """append clear copy count endswith extend find get index insert isalnum isalpha isdigit islower isspace isupper
items join keys ljust lower lstrip partition pop remove replace reverse rfind rjust rpartition rsplit rstrip setdefault
split splitlines startswith strip update upper values zfill bit_length""".split()

BARRED_EVERYWHERE = {"register", "mro", "elements", "open", "input", "law", "version_info", "with_traceback", "add_note"}

BARRED_WORDS = """typing typing_extensions enum Enum IntEnum StrEnum Flag IntFlag Generic Protocol ABC ABCMeta namedtuple
NamedTuple TypedDict TYPE_CHECKING abstractmethod dataclass overload contextmanager _wall _WallAttr""".split()

NOT_ALLOWED = (ast.AsyncFunctionDef, ast.AsyncFor, ast.AsyncWith, ast.Await, ast.Div, ast.MatMult)


def files():
    return sorted(PACKAGE.rglob("*.py"))


def trees():
    return [(path, ast.parse(path.read_text(encoding="ascii"))) for path in files()]


class LanguageTest(unittest.TestCase):

    def test_the_folder_holds_python_files_alone(self):
        names = [path.name for path in PACKAGE.iterdir() if path.name != "__pycache__"]
        self.assertIn("__init__.py", names)
        for name in names:
            self.assertRegex(name, r"\A(__init__|__main__|[a-z][a-z0-9_]*)\.py\Z")
            self.assertNotRegex(name, r"\A(test|law_|site|conftest|usercustomize)")
        self.assertLessEqual(len(names), 100)

    def test_sizes_and_characters(self):
        for path in files():
            text = path.read_bytes().decode("ascii")
            rows = text.split("\n")
            self.assertLessEqual(len(rows), 399, path)
            for row in rows:
                self.assertLessEqual(len(row), 120, path)
                self.assertTrue(all([" " <= sign <= "~" for sign in row]), path)

    def test_sizes_of_functions(self):
        for path, tree in trees():
            for node in ast.walk(tree):
                if isinstance(node, ast.FunctionDef):
                    self.assertLessEqual(node.end_lineno - node.lineno + 1, 40, (path, node.name))

    def test_no_warnings(self):
        with warnings.catch_warnings():
            warnings.simplefilter("error")
            for path in files():
                compile(path.read_text(), str(path), "exec")

    def test_nodes(self):
        for path, tree in trees():
            for node in ast.walk(tree):
                self.assertNotIsInstance(node, NOT_ALLOWED, (path, getattr(node, "lineno", 0)))
                self.assertFalse(isinstance(node, ast.Constant) and isinstance(node.value, (float, complex)), path)
                if isinstance(node, (ast.FunctionDef, ast.ClassDef)):
                    allowed = ("property", "staticmethod", "classmethod")
                    for decorator in node.decorator_list:
                        self.assertIn(ast.unparse(decorator), allowed, path)

    def test_imports(self):
        for path, tree in trees():
            own = path.stem
            top = True
            for node in tree.body:
                if isinstance(node, ast.ImportFrom):
                    self.assertTrue(top, path)
                    self.assertEqual(node.level, 0, path)
                    parts = node.module.split(".")
                    self.assertTrue(parts[0] in LIBRARY or (parts[0] == "strangerspost" and len(parts) == 2), path)
                    for alias in node.names:
                        self.assertNotEqual(alias.name, "*", path)
                        if parts[0] == "strangerspost":
                            self.assertIn(alias.name, self.defined(parts[1]), (own, parts[1]))
                elif not (isinstance(node, ast.Expr) and isinstance(node.value, ast.Constant)):
                    top = False
            within = [node for node in ast.walk(tree) if isinstance(node, (ast.Import, ast.ImportFrom))]
            self.assertEqual(len(within), len([node for node in tree.body if isinstance(node, ast.ImportFrom)]), path)

    def test_all_imports_are_used(self):
        for path, tree in trees():
            used = [node.id for node in ast.walk(tree) if isinstance(node, ast.Name)]
            for node in tree.body:
                if isinstance(node, ast.ImportFrom):
                    for alias in node.names:
                        self.assertIn(alias.name, used, path)

    def defined(self, stem):
        names = []
        for node in ast.parse((PACKAGE / f"{stem}.py").read_text()).body:
            if isinstance(node, (ast.FunctionDef, ast.ClassDef)):
                names.append(node.name)
            elif isinstance(node, ast.Assign):
                names.append(node.targets[0].id)
        return names

    def test_no_two_files_import_from_each_other(self):
        needs = {}
        for path, tree in trees():
            needs[path.stem] = [
                node.module.split(".")[1] for node in tree.body
                if isinstance(node, ast.ImportFrom) and node.module.startswith("strangerspost.")
            ]
        done = []
        while len(done) < len(needs):
            ready = [stem for stem in needs if stem not in done and all([need in done for need in needs[stem]])]
            self.assertNotEqual(ready, [], "files import in a ring")
            done.extend(ready)

    def test_module_level(self):
        for path, tree in trees():
            seen = []
            for node in tree.body:
                if isinstance(node, ast.Assign):
                    self.assertEqual(len(node.targets), 1, path)
                    self.assertIsInstance(node.targets[0], ast.Name, path)
                    seen.append(node.targets[0].id)
                elif isinstance(node, (ast.FunctionDef, ast.ClassDef)):
                    seen.append(node.name)
                elif isinstance(node, ast.Expr):
                    self.assertIsInstance(node.value, ast.Constant, path)
                elif not isinstance(node, ast.ImportFrom):
                    self.assertTrue(path.stem == "__main__", (path, node.lineno))
            self.assertEqual(len(seen), len(set(seen)), path)

    def names_of(self, tree):
        """All names that a file gives a meaning, its attributes and methods left out."""
        for node in ast.walk(tree):
            if isinstance(node, ast.Name) and not isinstance(node.ctx, ast.Load):
                yield node.id
            elif isinstance(node, ast.arg):
                yield node.arg
            elif isinstance(node, ast.ClassDef):
                yield node.name
            elif isinstance(node, ast.ExceptHandler) and node.name:
                yield node.name
        methods = [name for top in ast.walk(tree) if isinstance(top, ast.ClassDef) for name in top.body]
        for node in ast.walk(tree):
            if isinstance(node, ast.FunctionDef) and node not in methods:
                yield node.name

    def test_names(self):
        builtin = dir(__builtins__) if not isinstance(__builtins__, dict) else list(__builtins__)
        for path, tree in trees():
            imported = [alias.name for node in tree.body if isinstance(node, ast.ImportFrom) for alias in node.names]
            for name in self.names_of(tree):
                self.assertNotIn(name, builtin, path)
                self.assertNotIn(name, BARRED_EVERYWHERE, path)
                self.assertNotIn(name, imported, path)
                self.assertFalse(name.startswith("__") and name not in DOUBLE, (path, name))
            for node in ast.walk(tree):
                if isinstance(node, ast.Attribute):
                    self.assertNotIn(node.attr, BARRED_EVERYWHERE, path)
                    self.assertFalse(node.attr.startswith("__") and node.attr != "__init__", (path, node.attr))
                if isinstance(node, ast.FunctionDef) and node.name.startswith("__"):
                    self.assertIn(node.name, DOUBLE, path)

    def test_builtins_and_methods(self):
        own = [node.name for _, tree in trees() for node in ast.walk(tree) if isinstance(node, ast.FunctionDef)]
        builtin = dir(__builtins__) if not isinstance(__builtins__, dict) else list(__builtins__)
        for path, tree in trees():
            for node in ast.walk(tree):
                if isinstance(node, ast.Name) and isinstance(node.ctx, ast.Load) and node.id in builtin:
                    self.assertIn(node.id, BUILTINS, (path, node.lineno))
                if isinstance(node, ast.Call) and isinstance(node.func, ast.Attribute):
                    self.assertIn(node.func.attr, own + METHODS, (path, node.lineno))

    def test_caught_errors(self):
        for path, tree in trees():
            for node in ast.walk(tree):
                if isinstance(node, ast.ExceptHandler):
                    self.assertIsNotNone(node.type, path)
                    caught = node.type.elts if isinstance(node.type, ast.Tuple) else [node.type]
                    for error in caught:
                        self.assertNotIn(error.id, ("Exception", "TypeError", "ArithmeticError", "RuntimeError"), path)

    def test_attributes(self):
        barred = """items keys values pop update append clear extend insert remove reverse setdefault sort args encode decode
            hex fromhex format""".split()
        for path, tree in trees():
            for top in [node for node in ast.walk(tree) if isinstance(node, ast.ClassDef)]:
                methods = [node.name for node in top.body if isinstance(node, ast.FunctionDef)]
                self.assertEqual(len(methods), len(set(methods)), (path, top.name))
                for node in ast.walk(top):
                    if isinstance(node, ast.Attribute) and isinstance(node.ctx, ast.Store):
                        self.assertNotIn(node.attr, barred, (path, node.lineno))
                        self.assertNotIn(node.attr, methods, (path, node.lineno))

    def test_no_name_is_a_method_here_and_an_attribute_there(self):
        methods, attributes = set(), set()
        for _, tree in trees():
            for node in ast.walk(tree):
                if isinstance(node, ast.ClassDef):
                    methods.update([part.name for part in node.body if isinstance(part, ast.FunctionDef)])
                if isinstance(node, ast.Attribute) and isinstance(node.ctx, ast.Store):
                    attributes.add(node.attr)
        self.assertEqual(methods & attributes, set())

    def test_stars_is_and_raise(self):
        for path, tree in trees():
            for node in ast.walk(tree):
                place = (path, getattr(node, "lineno", 0))
                if isinstance(node, ast.Call):
                    for given in node.args:
                        if isinstance(given, ast.Starred):
                            self.assertIsInstance(given.value, (ast.Name, ast.Attribute), place)
                if isinstance(node, ast.Compare) and isinstance(node.ops[0], (ast.Is, ast.IsNot)):
                    self.assertIsInstance(node.comparators[0], ast.Constant, place)
                if isinstance(node, ast.Raise) and node.exc is not None:
                    self.assertIsInstance(node.exc, ast.Call, place)
                if isinstance(node, ast.BinOp) and isinstance(node.op, ast.Pow):
                    self.assertIsInstance(node.right, ast.Constant, place)
                self.assertNotIsInstance(node, ast.Global, place)

    def test_words(self):
        for path in files():
            kept = [row.split("#")[0] for row in path.read_text().split("\n")]
            text = re.sub(r'"""(.|\n)*?"""', "", "\n".join(kept))
            for word in BARRED_WORDS:
                self.assertNotRegex(text, rf"\b{word}\b", path)

    def test_no_generator_expressions(self):
        # As a class has `__eq__`, any, all, sum, min, max and sorted take none.
        for path, tree in trees():
            for node in ast.walk(tree):
                self.assertNotIsInstance(node, ast.GeneratorExp, (path, getattr(node, "lineno", 0)))


if __name__ == "__main__":
    unittest.main()
