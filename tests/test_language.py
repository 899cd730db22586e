"""The rules of the language that a program can look for, over all files of the package."""

import ast
import builtins
import os
import re
import unittest

PACKAGE = os.path.join(os.path.dirname(os.path.dirname(os.path.abspath(__file__))), "mostlaid")

LIBRARY = {"math": {"gcd", "lcm", "isqrt", "comb", "perm", "factorial"},
           "heapq": {"heappush", "heappop", "heapify", "heapreplace", "heappushpop"},
           "itertools": {"product", "combinations", "permutations", "chain", "accumulate", "pairwise", "islice",
                         "zip_longest"},
           "collections": {"defaultdict"}}

BUILTINS = {"len", "range", "enumerate", "zip", "min", "max", "sum", "abs", "sorted", "reversed", "int", "str", "bool",
            "list", "tuple", "dict", "set", "isinstance", "ord", "repr", "any", "all", "divmod", "pow", "map", "iter",
            "next", "getattr", "hasattr", "setattr", "super", "property", "staticmethod", "classmethod", "Exception",
            "ValueError", "TypeError", "KeyError", "IndexError", "LookupError", "ZeroDivisionError", "ArithmeticError",
            "OverflowError", "RuntimeError", "NotImplementedError", "StopIteration", "NotImplemented"}

METHODS = set("""append clear copy count endswith extend find get index insert isalnum isalpha isdigit islower isspace
isupper items join keys ljust lower lstrip partition pop remove replace reverse rfind rjust rpartition rsplit rstrip
setdefault split splitlines startswith strip update upper values zfill bit_length add discard __init__ format""".split())

BARRED = set("""register mro elements open input law version_info with_traceback add_note attrgetter breakpoint
builtins compile copyright credits delattr dir eval exec exit gc globals help id importlib license locals methodcaller
os quit type vars sys""".split())

BARRED_WORDS = re.compile(r"\b(type|typing|typing_extensions|enum|Enum|IntEnum|StrEnum|Flag|IntFlag|Generic|Protocol|"
                          r"ABC|ABCMeta|namedtuple|NamedTuple|TypedDict|TYPE_CHECKING|abstractmethod|_wall|_WallAttr)\b")

SPECIAL = set("""__init__ __eq__ __repr__ __str__ __len__ __call__ __iter__ __lt__ __le__ __gt__ __ge__ __ne__ __bool__
__contains__""".split())

NODES_BARRED = (ast.Global, ast.AsyncFunctionDef, ast.AsyncFor, ast.AsyncWith, ast.Await, ast.Div)


def files():
    return sorted(name for name in os.listdir(PACKAGE) if not name.startswith("__pycache__"))


def text_of(name):
    with open(os.path.join(PACKAGE, name), encoding="utf-8") as file:
        return file.read()


def trees():
    return [(name, ast.parse(text_of(name))) for name in files()]


def code_only(text):
    """The text without docstrings and comments."""
    tree = ast.parse(text)
    for node in ast.walk(tree):
        body = getattr(node, "body", None)
        if isinstance(body, list) and body and isinstance(body[0], ast.Expr) and isinstance(body[0].value, ast.Constant):
            body[0].value.value = ""
    return ast.unparse(tree)


class LanguageTest(unittest.TestCase):
    def test_files(self):
        self.assertLessEqual(len(files()), 100)
        for name in files():
            self.assertRegex(name, r"^[a-z_]+\.py$")
            text = text_of(name)
            self.assertLessEqual(len(text.splitlines()), 399, name)
            for line in text.splitlines():
                self.assertLessEqual(len(line), 120, (name, line))
            self.assertTrue(all(c == "\n" or " " <= c <= "~" for c in text), name)
            self.assertIsNone(BARRED_WORDS.search(code_only(text)), name)

    def test_sizes_of_functions(self):
        for name, tree in trees():
            for node in ast.walk(tree):
                if isinstance(node, ast.FunctionDef):
                    self.assertLessEqual(node.end_lineno - node.lineno + 1, 40, (name, node.name))

    def test_module_level(self):
        for name, tree in trees():
            for node in tree.body:
                kinds = (ast.Import, ast.ImportFrom, ast.FunctionDef, ast.ClassDef, ast.Assign)
                is_docstring = isinstance(node, ast.Expr) and isinstance(node.value, ast.Constant)
                self.assertTrue(is_docstring or isinstance(node, kinds), (name, node.lineno))
                if isinstance(node, ast.Assign):
                    ast.literal_eval(node.value)
                    self.assertEqual(len(node.targets), 1)

    def test_imports(self):
        links = {}
        for name, tree in trees():
            links[name] = []
            for node in ast.walk(tree):
                self.assertNotIsInstance(node, ast.Import, name)
                if isinstance(node, ast.ImportFrom):
                    self.assertEqual(node.level, 0)
                    for alias in node.names:
                        self.assertIsNone(alias.asname)
                        if node.module in LIBRARY:
                            self.assertIn(alias.name, LIBRARY[node.module])
                        else:
                            self.check_own_import(node.module, alias.name)
                            links[name].append(node.module.split(".")[1] + ".py")
        self.check_no_rings(links)

    def check_own_import(self, module, imported):
        self.assertTrue(module.startswith("mostlaid."), module)
        tree = ast.parse(text_of(module.split(".")[1] + ".py"))
        self.assertIn(imported, names_bound(tree))

    def check_no_rings(self, links):
        left = dict(links)
        while left:
            free = [name for name in left if not any(other in left for other in left[name])]
            self.assertTrue(free, left)
            for name in free:
                del left[name]

    def test_imports_are_used(self):
        for name, tree in trees():
            used = {node.id for node in ast.walk(tree) if isinstance(node, ast.Name)}
            for node in ast.walk(tree):
                if isinstance(node, ast.ImportFrom):
                    for alias in node.names:
                        self.assertIn(alias.name, used, name)

    def test_names(self):
        all_builtins = set(dir(builtins))
        for name, tree in trees():
            bound = names_bound(tree)
            self.assertEqual(len(bound), len(set(bound)), name)
            top = imported_names(tree) | {node.name for node in tree.body if isinstance(node, ast.ClassDef)}
            for node in ast.walk(tree):
                for made in names_made(node):
                    self.assertNotIn(made, all_builtins, name)
                    self.assertNotIn(made, BARRED, name)
                    self.assertNotIn(made, top, name)
                    self.assertRegex(made, r"^(_|_?[A-Za-z][A-Za-z0-9_]*)$")
                if isinstance(node, ast.Name) and isinstance(node.ctx, ast.Load):
                    self.assertNotEqual(node.id, "_", name)
                    if node.id in all_builtins:
                        self.assertIn(node.id, BUILTINS, (name, node.lineno))
                if isinstance(node, ast.FunctionDef) and node.name.startswith("__"):
                    self.assertIn(node.name, SPECIAL, name)

    def test_nodes(self):
        known = METHODS | own_methods()
        for name, tree in trees():
            for node in ast.walk(tree):
                where = (name, getattr(node, "lineno", 0))
                self.assertNotIsInstance(node, NODES_BARRED, where)
                if isinstance(node, (ast.FunctionDef, ast.ClassDef)):
                    for decorator in node.decorator_list:
                        self.assertIsInstance(node, ast.FunctionDef, where)
                        self.assertIn(ast.unparse(decorator).split(".")[-1],
                                      ("property", "staticmethod", "classmethod", "setter"), where)
                if isinstance(node, ast.Constant):
                    self.assertNotIsInstance(node.value, (float, complex), where)
                    if isinstance(node.value, str):
                        self.assertNotIn(chr(37), node.value, where)
                if isinstance(node, ast.GeneratorExp):
                    self.fail(where)
                if isinstance(node, ast.Compare):
                    self.check_is(node, where)
                if isinstance(node, ast.BinOp) and isinstance(node.op, ast.Pow):
                    self.assertIsInstance(node.right, ast.Constant, where)
                    self.assertLessEqual(node.right.value, 64, where)
                if isinstance(node, ast.Call) and isinstance(node.func, ast.Attribute):
                    self.assertIn(node.func.attr, known, where)

    def check_is(self, node, where):
        for op, right in zip(node.ops, node.comparators):
            if isinstance(op, (ast.Is, ast.IsNot)):
                self.assertIsInstance(right, ast.Constant, where)
                self.assertIn(right.value, (None, True, False), where)

    def test_stars_in_calls(self):
        plain = (ast.Name, ast.Attribute, ast.Constant, ast.List, ast.Tuple)
        for name, tree in trees():
            for node in ast.walk(tree):
                if isinstance(node, ast.Call):
                    stars = [arg for arg in node.args if isinstance(arg, ast.Starred)]
                    self.assertLessEqual(len(stars), 1, (name, node.lineno))
                    for star in stars:
                        self.assertIsInstance(star.value, plain, (name, node.lineno))

    def test_sets_are_not_iterated(self):
        for name, tree in trees():
            for node in ast.walk(tree):
                if isinstance(node, (ast.For, ast.comprehension)):
                    self.assertNotIsInstance(node.iter, (ast.Set, ast.SetComp), name)
                    if isinstance(node.iter, ast.Call) and isinstance(node.iter.func, ast.Name):
                        self.assertNotEqual(node.iter.func.id, "set", name)

    def test_methods_and_attributes_are_apart(self):
        for name, tree in trees():
            for node in ast.walk(tree):
                if isinstance(node, ast.ClassDef):
                    methods = {item.name for item in node.body if isinstance(item, ast.FunctionDef)}
                    attributes = {item.attr for item in ast.walk(node) if isinstance(item, ast.Attribute)
                                  and isinstance(item.ctx, ast.Store)}
                    self.assertEqual(methods & attributes, set(), name)

    def test_no_method_has_the_name_of_an_attribute_of_any_class(self):
        attributes = set()
        for _, tree in trees():
            attributes |= {node.attr for node in ast.walk(tree) if isinstance(node, ast.Attribute)
                           and isinstance(node.ctx, ast.Store)}
        self.assertEqual(attributes & own_methods(), set())

    def test_names_with_an_underscore_that_are_barred(self):
        barred = re.compile(r"_(pe|dcw|enum|cm|twin_re|lay|law|stub)_|_(sre|wall|WallAttr|cold|tuplegetter|outside|record|"
                            r"written_out|member_names)")
        for name, tree in trees():
            for node in ast.walk(tree):
                for word in ("id", "attr", "name", "arg"):
                    made = getattr(node, word, None)
                    self.assertFalse(isinstance(made, str) and barred.match(made), (name, made))

    def test_ranges_are_not_passed_on(self):
        takers = BUILTINS | {"product", "combinations", "permutations", "chain"}
        for name, tree in trees():
            for node in ast.walk(tree):
                if isinstance(node, ast.Call):
                    for arg in node.args:
                        is_view = isinstance(arg, ast.Call) and isinstance(arg.func, ast.Name) and arg.func.id in (
                            "range", "zip", "enumerate", "reversed")
                        if is_view:
                            self.assertIsInstance(node.func, ast.Name, (name, node.lineno))
                            self.assertIn(node.func.id, takers, (name, node.lineno))

    def test_finally_is_simple(self):
        for name, tree in trees():
            for node in ast.walk(tree):
                if isinstance(node, ast.Try):
                    for line in node.finalbody:
                        self.check_finally(line, (name, line.lineno))

    def check_finally(self, line, where):
        if isinstance(line, ast.If):
            self.assertIsInstance(line.test, ast.Compare, where)
            self.assertIsInstance(line.test.left, ast.Name, where)
            self.assertIsInstance(line.test.ops[0], (ast.Is, ast.IsNot), where)
            for inner in line.body + line.orelse:
                self.check_finally(inner, where)
        else:
            self.assertIsInstance(line, ast.Assign, where)
            self.assertIsInstance(line.value, (ast.Name, ast.Constant), where)

    def test_no_property_has_the_name_of_an_attribute(self):
        attributes, properties = set(), set()
        for _, tree in trees():
            for node in ast.walk(tree):
                if isinstance(node, ast.Attribute) and isinstance(node.ctx, ast.Store):
                    attributes.add(node.attr)
                if isinstance(node, ast.FunctionDef) and "property" in [ast.unparse(one) for one in node.decorator_list]:
                    properties.add(node.name)
        self.assertIn("layers", properties)
        self.assertEqual(attributes & properties, set())


def own_methods():
    found = set()
    for _, tree in trees():
        for node in ast.walk(tree):
            if isinstance(node, ast.ClassDef):
                found |= {item.name for item in node.body if isinstance(item, ast.FunctionDef)}
    return found


def imported_names(tree):
    return {alias.name for node in tree.body if isinstance(node, ast.ImportFrom) for alias in node.names}


def names_bound(tree):
    """The names that a file binds at module level, in order."""
    found = []
    for node in tree.body:
        if isinstance(node, (ast.FunctionDef, ast.ClassDef)):
            found.append(node.name)
        if isinstance(node, ast.Assign):
            found.extend(target.id for target in node.targets)
        if isinstance(node, ast.ImportFrom):
            found.extend(alias.name for alias in node.names)
    return found


def names_made(node):
    """The names of parameters, local variables and functions that a node makes."""
    if isinstance(node, ast.arg):
        return [node.arg]
    if isinstance(node, ast.Name) and isinstance(node.ctx, ast.Store):
        return [node.id]
    if isinstance(node, ast.FunctionDef) and not node.name.startswith("__"):
        return [node.name]
    if isinstance(node, ast.ExceptHandler) and node.name:
        return [node.name]
    return []


if __name__ == "__main__":
    unittest.main()
