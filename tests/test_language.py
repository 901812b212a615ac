"""The rules of the language that can be seen in the code without running it. (Not all of them can.)"""

import ast
import builtins
import os
import re
import unittest

TOP = os.path.dirname(os.path.dirname(os.path.abspath(__file__)))
PACKAGE = os.path.join(TOP, "rightstate")
BUILTINS = set("""len range enumerate zip min max sum abs sorted reversed int str bool bytes list tuple dict set
    frozenset isinstance ord repr any all divmod pow Exception ValueError TypeError KeyError IndexError LookupError
    ZeroDivisionError ArithmeticError OverflowError RuntimeError NotImplementedError AttributeError StopIteration
    NotImplemented property super staticmethod classmethod iter next map""".split())
METHODS = set("""append clear copy count endswith extend find get index insert isalnum isalpha isdigit islower isspace
    isupper items join keys ljust lower lstrip partition pop remove replace reverse rfind rjust rpartition rsplit
    rstrip setdefault split splitlines startswith strip update upper values zfill bit_length add discard sort isascii
    """.split())
SPECIAL = set("__init__ __eq__ __len__ __enter__ __exit__ __call__ __iter__ __contains__ __getitem__ __setitem__".split())
BARRED_WORDS = re.compile(r"\b(type|typing|enum|Enum|IntEnum|StrEnum|Flag|IntFlag|Generic|Protocol|ABC|ABCMeta|"
                          r"namedtuple|NamedTuple|TypedDict|abstractmethod|Meta)\b|dataclass|overload|contextmanager|_wall")
BARRED_NAMES = set("""register mro elements open input law version_info with_traceback add_note attrgetter breakpoint
    compile copyright credits delattr dir eval exec exit gc globals help id importlib license locals os quit setattr
    vars sys""".split())
BARRED_NODES = (ast.Global, ast.AsyncFunctionDef, ast.AsyncFor, ast.AsyncWith, ast.Await, ast.Div, ast.MatMult)
LIBRARY = {"heapq", "math", "itertools", "collections"}
PYTHONS = {name for name in vars(builtins) if not name.startswith("_")}


def package_files():
    return sorted(name for name in os.listdir(PACKAGE) if name != "__pycache__")


def read(name):
    with open(os.path.join(PACKAGE, name), encoding="utf-8") as file:
        return file.read()


def nodes(name, *kinds):
    return [node for node in ast.walk(ast.parse(read(name))) if isinstance(node, kinds)]


def bound_names(name):
    """All names that a file gives a meaning of its own."""
    found = [node.id for node in nodes(name, ast.Name) if not isinstance(node.ctx, ast.Load)]
    found += [node.arg for node in nodes(name, ast.arg)]
    found += [node.name for node in nodes(name, ast.FunctionDef, ast.ClassDef)]
    return found


class Language(unittest.TestCase):
    def test_files(self):
        self.assertIn("__init__.py", package_files())
        for name in package_files():
            self.assertRegex(name, r"^[a-z_0-9]+\.py$")
            text = read(name)
            self.assertRegex(text, r"\A[ -~\n]*\n\Z")
            self.assertLessEqual(len(text.splitlines()), 399)
            self.assertLessEqual(max(map(len, text.splitlines())), 120)
            self.assertNotIn(" \n", text)

    def test_size_of_functions(self):
        for name in package_files():
            for node in nodes(name, ast.FunctionDef):
                self.assertLessEqual(node.end_lineno - node.lineno + 1, 40, node.name)

    def test_imports(self):
        reached = {}
        for name in package_files():
            self.assertEqual(nodes(name, ast.Import), [])
            reached[name[:-3]] = set()
            for node in nodes(name, ast.ImportFrom):
                self.assertEqual((node.level, node.col_offset), (0, 0))
                self.assertNotIn("*", [one.name for one in node.names])
                if node.module.startswith("rightstate."):
                    there = node.module.split(".")[1]
                    reached[name[:-3]].add(there)
                    tree = ast.parse(read(there + ".py"))
                    defined = [one.name for one in tree.body if hasattr(one, "name")]
                    defined += [one.targets[0].id for one in tree.body if isinstance(one, ast.Assign)]
                    self.assertLessEqual({one.name for one in node.names}, set(defined))
                else:
                    self.assertIn(node.module, LIBRARY)
        for _ in reached:
            for one in reached:
                reached[one] = reached[one].union(*[reached[other] for other in reached[one]])
        self.assertEqual([one for one in reached if one in reached[one]], [])

    def test_module_level(self):
        for name in package_files():
            tree = ast.parse(read(name))
            for at, node in enumerate(tree.body):
                docstring = at == 0 and isinstance(node, ast.Expr) and isinstance(node.value, ast.Constant)
                allowed = (ast.ImportFrom, ast.FunctionDef, ast.ClassDef, ast.Assign)
                self.assertTrue(docstring or isinstance(node, allowed), ast.dump(node))
            names = [node.targets[0].id for node in tree.body if isinstance(node, ast.Assign)]
            names += [node.name for node in tree.body if hasattr(node, "name")]
            names += [one.name for node in tree.body if isinstance(node, ast.ImportFrom) for one in node.names]
            self.assertEqual(len(names), len(set(names)))

    def test_words(self):
        for name in package_files():
            self.assertIsNone(BARRED_WORDS.search(read(name)))
            self.assertEqual(nodes(name, *BARRED_NODES), [])
            for node in nodes(name, ast.Constant):
                self.assertNotIsInstance(node.value, (float, complex))
                self.assertNotIn("%", str(node.value))

    def test_names(self):
        for name in package_files():
            for one in bound_names(name):
                self.assertRegex(one, r"^(_?[A-Za-z][A-Za-z0-9_]*|_|__[a-z]+__)$")
                self.assertFalse(one in PYTHONS or one in BARRED_NAMES, one)
                self.assertTrue(not one.startswith("__") or one in SPECIAL, one)
            for node in nodes(name, ast.Attribute):
                if ast.unparse(node) == "super().__init__":
                    continue
                self.assertFalse(node.attr.startswith("__") or node.attr in BARRED_NAMES, node.attr)

    def test_builtins(self):
        for name in package_files():
            for node in nodes(name, ast.Name):
                if node.id in PYTHONS:
                    self.assertIn(node.id, BUILTINS)

    def test_methods(self):
        own = set()
        for name in package_files():
            for node in nodes(name, ast.ClassDef):
                own.update(one.name for one in node.body if isinstance(one, ast.FunctionDef))
        for name in package_files():
            for node in nodes(name, ast.Call):
                if isinstance(node.func, ast.Attribute):
                    self.assertTrue(node.func.attr in METHODS or node.func.attr in own, node.func.attr)

    def test_decorators(self):
        for name in package_files():
            for node in nodes(name, ast.FunctionDef, ast.ClassDef):
                for one in node.decorator_list:
                    self.assertTrue(ast.unparse(one) == "property" or ast.unparse(one).endswith(".setter"))

    def test_sets_and_generators(self):
        for name in package_files():
            self.assertEqual(nodes(name, ast.GeneratorExp), [])
            calls = nodes(name, ast.Call)
            inside = [arg for call in calls if ast.unparse(call.func) in ("sorted", "len") for arg in call.args]
            for node in nodes(name, ast.Set, ast.SetComp):
                self.assertIn(ast.unparse(node), [ast.unparse(arg) for arg in inside])

    def test_attributes_have_names_of_their_own(self):
        methods, attributes = set(), set()
        for name in package_files():
            for node in nodes(name, ast.ClassDef):
                methods.update(one.name for one in node.body if isinstance(one, ast.FunctionDef))
            attributes.update(node.attr for node in nodes(name, ast.Attribute) if isinstance(node.ctx, ast.Store))
        # The document calls a property of live objects and a field of two errors alike.
        self.assertEqual(methods & attributes, {"state"})

    def test_what_is_iterated_on_the_spot(self):
        takers = ("list", "tuple", "sorted", "sum", "min", "max", "any", "all", "enumerate", "zip", "reversed", "len")
        for name in package_files():
            for call in nodes(name, ast.Call):
                for arg in call.args:
                    if re.match(r"(range|zip|enumerate|reversed|map)\(|.*\.(items|keys|values)\(\)$", ast.unparse(arg)):
                        self.assertIn(ast.unparse(call.func), takers)

    def test_is(self):
        for name in package_files():
            for node in nodes(name, ast.Compare):
                if isinstance(node.ops[0], (ast.Is, ast.IsNot)):
                    self.assertIn(ast.unparse(node.comparators[0]), ("None", "True", "False"))

    def test_names_of_imports_and_classes_have_no_other_meaning(self):
        for name in package_files():
            taken = {one.name for node in nodes(name, ast.ImportFrom) for one in node.names}
            taken.update(node.name for node in nodes(name, ast.ClassDef))
            found = [node.id for node in nodes(name, ast.Name) if isinstance(node.ctx, ast.Store)]
            found += [node.arg for node in nodes(name, ast.arg)]
            self.assertEqual(taken & set(found), set())

    def test_classes_with_brackets_tell_that_they_are_not_iterated_over(self):
        for name in package_files():
            for node in nodes(name, ast.ClassDef):
                methods = [one.name for one in node.body if isinstance(one, ast.FunctionDef)]
                if "__getitem__" in methods:
                    self.assertIn("__iter__", methods)


if __name__ == "__main__":
    unittest.main()
