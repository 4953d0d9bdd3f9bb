"""That the package keeps to the plain part of Python that it is written in, as far as a test can see."""

import ast
import builtins
import os
import unittest

FOLDER = os.path.join(os.path.dirname(os.path.dirname(os.path.abspath(__file__))), "signrounds")
LIBRARY = {
    "heapq": {"heappush", "heappop", "heapify", "heapreplace", "heappushpop"},
    "math": {"gcd", "lcm", "isqrt", "comb", "perm", "factorial"},
    "itertools": {"product", "combinations", "permutations"},
}
CALLED = set("""len range enumerate zip min max sum abs sorted reversed int str bool bytes list tuple dict set frozenset
    isinstance ord repr any all divmod iter next map super property""".split())
ERRORS = set("""Exception ValueError TypeError KeyError IndexError LookupError ZeroDivisionError ArithmeticError
    OverflowError RuntimeError NotImplementedError AttributeError StopIteration NotImplemented""".split())
METHODS = set("""append clear copy count endswith extend find get index insert isalnum isalpha isdigit islower isspace
    isupper items join keys ljust lower lstrip partition pop remove replace reverse rfind rjust rpartition rsplit
    rstrip setdefault split splitlines startswith strip update upper values zfill bit_length title capitalize
    swapcase casefold center expandtabs removeprefix removesuffix rindex isascii isdecimal isnumeric istitle
    isidentifier isprintable translate add discard sort""".split())
NEVER = set("register mro elements open input law version_info with_traceback add_note".split())
NO_NAMES = set("""attrgetter breakpoint builtins compile copyright credits delattr dir eval exec exit gc getattr globals
    hasattr help id importlib license locals methodcaller os quit setattr super type vars sys""".split())
NO_WORDS = set("""type typing typing_extensions enum Enum IntEnum StrEnum Flag IntFlag Generic Protocol ABC ABCMeta
    namedtuple NamedTuple TypedDict TYPE_CHECKING abstractmethod""".split())


def files():
    told = {}
    for name in sorted(os.listdir(FOLDER)):
        if name != "__pycache__":
            with open(os.path.join(FOLDER, name), encoding="utf-8") as file:
                told[name] = file.read()
    return told


def trees():
    return {name: ast.parse(text) for name, text in files().items()}


def names_bound(tree):
    """All names that functions, classes, parameters and assignments bind."""
    for node in ast.walk(tree):
        if isinstance(node, (ast.FunctionDef, ast.ClassDef)):
            yield node.name
        elif isinstance(node, ast.arg):
            yield node.arg
        elif isinstance(node, ast.Name) and isinstance(node.ctx, ast.Store):
            yield node.id


def docstrings(tree):
    return {
        id(node.body[0].value) for node in ast.walk(tree)
        if isinstance(node, (ast.Module, ast.FunctionDef, ast.ClassDef)) and ast.get_docstring(node) is not None
    }


class Language(unittest.TestCase):
    def test_files(self):
        self.assertLessEqual(len(files()), 100)
        for name, text in files().items():
            self.assertTrue(name.endswith(".py") and name == name.lower(), name)
            self.assertLessEqual(len(text.split("\n")), 400, name)
            self.assertTrue(text.endswith("\n"))
            for line in text.split("\n"):
                self.assertLessEqual(len(line), 120, (name, line))
                self.assertTrue(all(" " <= letter <= "~" for letter in line), (name, line))

    def test_functions_are_short(self):
        for name, tree in trees().items():
            for node in ast.walk(tree):
                if isinstance(node, ast.FunctionDef):
                    self.assertLessEqual(node.end_lineno - node.lineno + 1, 40, (name, node.name))
                    self.assertLessEqual({ast.unparse(one) for one in node.decorator_list}, {"property"}, name)

    def test_module_level(self):
        for name, tree in trees().items():
            bound = []
            for at, node in enumerate(tree.body):
                if isinstance(node, ast.Expr):
                    self.assertTrue(at == 0 and isinstance(node.value, ast.Constant), name)
                elif isinstance(node, ast.ImportFrom):
                    bound += [one.name for one in node.names]
                elif isinstance(node, ast.Assign):
                    self.assertIsInstance(node.targets[0], ast.Name)
                    self.assertFalse([one for one in ast.walk(node.value) if isinstance(one, ast.Call)], name)
                    bound.append(node.targets[0].id)
                else:
                    self.assertIsInstance(node, (ast.FunctionDef, ast.ClassDef), name)
                    bound.append(node.name)
            self.assertEqual(len(set(bound)), len(bound), name)

    def test_imports(self):
        known = trees()
        leads = {}
        for name, tree in known.items():
            leads[name] = []
            for node in ast.walk(tree):
                self.assertNotIsInstance(node, ast.Import, name)
                if isinstance(node, ast.ImportFrom):
                    self.assertIn(node, tree.body)
                    self.assertFalse([one for one in node.names if one.asname or one.name == "*"])
                    if node.module in LIBRARY:
                        self.assertLessEqual({one.name for one in node.names}, LIBRARY[node.module])
                        continue
                    self.assertTrue(node.level == 0 and node.module.startswith("signrounds."), name)
                    source = node.module.split(".")[1] + ".py"
                    leads[name].append(source)
                    own = [one.name for one in known[source].body if isinstance(one, (ast.FunctionDef, ast.ClassDef))]
                    own += [one.targets[0].id for one in known[source].body if isinstance(one, ast.Assign)]
                    self.assertLessEqual({one.name for one in node.names}, set(own), (name, source))
        while leads:
            ends = [name for name in leads if not set(leads[name]) & set(leads)]
            self.assertTrue(ends, leads)
            leads = {name: leads[name] for name in leads if name not in ends}

    def test_imports_are_used(self):
        for name, tree in trees().items():
            read = {node.id for node in ast.walk(tree) if isinstance(node, ast.Name)}
            for node in tree.body:
                if isinstance(node, ast.ImportFrom):
                    self.assertLessEqual({one.name for one in node.names}, read, name)

    def test_names(self):
        for name, tree in trees().items():
            taken = {one.name for node in tree.body if isinstance(node, ast.ImportFrom) for one in node.names}
            taken |= {node.name for node in tree.body if isinstance(node, ast.ClassDef)}
            inside = [one for node in tree.body if isinstance(node, ast.FunctionDef) for one in names_bound(node)]
            inside.extend(one for node in tree.body if isinstance(node, ast.ClassDef)
                          for part in node.body for one in names_bound(part))
            self.assertFalse(set(inside) & taken, name)
            for one in names_bound(tree):
                self.assertNotIn(one, NEVER | NO_NAMES | set(dir(builtins)) - {"__init__"}, name)
                self.assertTrue(one == "_" or one in ("__init__", "__eq__") or not one.startswith("__"), (name, one))

    def test_properties(self):
        for name, tree in trees().items():
            inside = {id(part) for node in ast.walk(tree) if isinstance(node, ast.ClassDef) for part in node.body}
            for node in ast.walk(tree):
                if isinstance(node, ast.FunctionDef) and node.decorator_list:
                    self.assertTrue(id(node) in inside and len(node.args.args) == 1, (name, node.name))
                    self.assertNotIn(node.name, METHODS, name)
                    for one in ast.walk(node):
                        self.assertNotIsInstance(one, (ast.Assign, ast.AugAssign, ast.Delete, ast.Call), name)

    def test_no_name_is_a_method_and_an_attribute_of_one_class(self):
        for name, tree in trees().items():
            for node in ast.walk(tree):
                if isinstance(node, ast.ClassDef):
                    methods = [part.name for part in node.body if isinstance(part, ast.FunctionDef)]
                    self.assertEqual(len(set(methods)), len(methods), (name, node.name))
                    stored = {one.attr for one in ast.walk(tree)
                              if isinstance(one, ast.Attribute) and isinstance(one.ctx, ast.Store)}
                    self.assertFalse(set(methods) & stored, (name, node.name))

    def test_no_method_is_read_off_a_class(self):
        classes = {node.name for tree in trees().values() for node in ast.walk(tree) if isinstance(node, ast.ClassDef)}
        for name, tree in trees().items():
            for node in ast.walk(tree):
                if isinstance(node, ast.Attribute) and isinstance(node.value, ast.Name):
                    self.assertNotIn(node.value.id, classes, name)
                if isinstance(node, ast.Try):
                    for handler in node.handlers:
                        self.assertEqual(ast.unparse(handler.type), "SignError", name)

    def test_calls(self):
        own = {one for tree in trees().values() for one in names_bound(tree)}
        for name, tree in trees().items():
            known = set(names_bound(tree)) | ERRORS | CALLED | {
                one.name for node in tree.body if isinstance(node, ast.ImportFrom) for one in node.names}
            for node in ast.walk(tree):
                if isinstance(node, ast.Name) and isinstance(node.ctx, ast.Load):
                    self.assertIn(node.id, known, name)
                if isinstance(node, ast.Call) and isinstance(node.func, ast.Attribute):
                    self.assertIn(node.func.attr, METHODS | {"__init__"} | own, name)
                if isinstance(node, ast.Attribute):
                    self.assertNotIn(node.attr, NEVER, name)

    def test_expressions(self):
        for name, tree in trees().items():
            for node in ast.walk(tree):
                for kind in (ast.Global, ast.AsyncFunctionDef, ast.Await, ast.Div, ast.MatMult):
                    self.assertNotIsInstance(node, kind, name)
                if isinstance(node, ast.BinOp) and isinstance(node.op, ast.Pow):
                    self.assertIsInstance(node.right, ast.Constant, name)
                if isinstance(node, ast.Compare) and isinstance(node.ops[0], (ast.Is, ast.IsNot)):
                    self.assertIn(ast.unparse(node.comparators[0]), ("None", "True", "False"), name)
                if isinstance(node, ast.ExceptHandler):
                    self.assertIsNotNone(node.type, name)
                if isinstance(node, ast.GeneratorExp):
                    self.fail((name, "take a list", ast.unparse(node)))

    def test_strings(self):
        for name, tree in trees().items():
            told = docstrings(tree)
            for node in ast.walk(tree):
                if isinstance(node, ast.Constant):
                    self.assertNotIsInstance(node.value, (float, complex), name)
                    if isinstance(node.value, str):
                        self.assertNotIn("%", node.value, name)
                        if id(node) not in told:
                            words = set("".join(c if c.isalnum() or c == "_" else " " for c in node.value).split())
                            self.assertFalse(words & NO_WORDS, (name, node.value))


if __name__ == "__main__":
    unittest.main()
