"""The files of the package keep to the rules of the language that can be seen in their code."""

import ast
import builtins
import os
import re
import unittest

ROOT = os.path.dirname(os.path.dirname(os.path.abspath(__file__)))
PACKAGE = os.path.join(ROOT, "shaftshakes")

LIBRARY = {
    "heapq": {"heappush", "heappop", "heapify", "heapreplace", "heappushpop"},
    "math": {"gcd", "lcm", "isqrt", "comb", "perm", "factorial"},
    "itertools": {"product", "combinations", "permutations", "chain", "accumulate", "pairwise",
                  "islice", "zip_longest"},
    "collections": {"defaultdict"},
}
BUILTINS = set("""len range enumerate zip min max sum abs sorted reversed int str bool bytes list tuple
    dict set frozenset isinstance ord repr any all divmod pow getattr hasattr setattr iter next map super
    property staticmethod classmethod Exception ValueError TypeError KeyError IndexError LookupError
    ZeroDivisionError ArithmeticError OverflowError RuntimeError NotImplementedError AttributeError
    StopIteration NotImplemented True False None""".split())
METHODS = set("""append clear copy count endswith extend find get index insert isalnum isalpha isdigit
    islower isspace isupper items join keys ljust lower lstrip partition pop remove replace reverse rfind
    rjust rpartition rsplit rstrip setdefault split splitlines startswith strip update upper values zfill
    bit_length title capitalize swapcase casefold center expandtabs removeprefix removesuffix rindex isascii
    isdecimal isnumeric istitle isidentifier isprintable translate sort add discard encode decode
    hex""".split())
DUNDERS = set("""__init__ __eq__ __repr__ __str__ __len__ __enter__ __exit__ __call__ __iter__ __contains__
    __bool__""".split())
BARRED = set("""register mro elements open input law version_info with_traceback add_note attrgetter
    breakpoint builtins compile copyright credits delattr dir eval exec exit gc globals help id importlib
    license locals methodcaller os quit type vars sys typing enum Enum""".split())
STATEMENTS = (ast.Assign, ast.AugAssign, ast.AnnAssign, ast.If, ast.While, ast.For, ast.Return, ast.Break,
              ast.Continue, ast.Pass, ast.Raise, ast.Assert, ast.Delete, ast.Nonlocal, ast.With, ast.Try,
              ast.Expr, ast.FunctionDef, ast.ClassDef, ast.ImportFrom, ast.Match)


def package_files():
    return sorted(name for name in os.listdir(PACKAGE) if name != "__pycache__")


def source_of(name):
    with open(os.path.join(PACKAGE, name), encoding="utf-8") as file:
        return file.read()


def nodes_of(name):
    return list(ast.walk(ast.parse(source_of(name))))


def bound_names(node):
    """The names that a function binds: parameters, variables, nested functions."""
    names = set()
    for inner in ast.walk(node):
        if isinstance(inner, ast.arg):
            names.add(inner.arg)
        elif isinstance(inner, ast.Name) and isinstance(inner.ctx, ast.Store):
            names.add(inner.id)
        elif isinstance(inner, ast.FunctionDef) and inner is not node:
            names.add(inner.name)
        elif isinstance(inner, ast.ExceptHandler) and inner.name:
            names.add(inner.name)
    return names


class Files(unittest.TestCase):
    def test_names_and_sizes(self):
        self.assertIn("__init__.py", package_files())
        self.assertLessEqual(len(package_files()), 100)
        for name in package_files():
            with self.subTest(file=name):
                self.assertRegex(name, r"^(__init__|__main__|[a-z][a-z0-9_]*)\.py$")
                self.assertNotIn(name[:-3], dir(builtins))
                text = source_of(name)
                self.assertEqual([], [char for char in text if char != "\n" and not " " <= char <= "~"])
                self.assertLessEqual(len(text.splitlines()), 399)
                self.assertLessEqual(max(len(row) for row in text.splitlines()), 120)
                for node in nodes_of(name):
                    if isinstance(node, ast.FunctionDef):
                        self.assertLessEqual(node.end_lineno - node.lineno + 1, 40, node.name)

    def test_imports_name_the_defining_file_and_make_no_circle(self):
        uses = {}
        for name in package_files():
            with self.subTest(file=name):
                uses[name] = set()
                for node in nodes_of(name):
                    self.assertNotIsInstance(node, ast.Import)
                    if not isinstance(node, ast.ImportFrom):
                        continue
                    self.assertEqual(0, node.level)
                    self.assertEqual([], [alias.name for alias in node.names if alias.asname])
                    names = {alias.name for alias in node.names}
                    if node.module in LIBRARY:
                        self.assertLessEqual(names, LIBRARY[node.module])
                        continue
                    package, _, module = node.module.partition(".")
                    self.assertEqual("shaftshakes", package)
                    defined = {top.name for top in ast.parse(source_of(module + ".py")).body
                               if isinstance(top, (ast.FunctionDef, ast.ClassDef))}
                    defined |= {top.targets[0].id for top in ast.parse(source_of(module + ".py")).body
                                if isinstance(top, ast.Assign)}
                    self.assertLessEqual(names, defined)
                    uses[name].add(module + ".py")
        while uses:
            free = [name for name in uses if not uses[name] & set(uses)]
            self.assertTrue(free, "a circle among " + ", ".join(sorted(uses)))
            for name in free:
                del uses[name]

    def test_imports_are_used(self):
        for name in package_files():
            with self.subTest(file=name):
                read = {node.id for node in nodes_of(name) if isinstance(node, ast.Name)}
                for node in nodes_of(name):
                    if isinstance(node, ast.ImportFrom):
                        for alias in node.names:
                            self.assertIn(alias.name, read)

    def test_module_level(self):
        for name in package_files():
            with self.subTest(file=name):
                seen = []
                for place, node in enumerate(ast.parse(source_of(name)).body):
                    if isinstance(node, ast.Expr):
                        self.assertEqual(0, place)
                        self.assertIsInstance(node.value, ast.Constant)
                    elif isinstance(node, ast.Assign):
                        self.assertEqual(1, len(node.targets))
                        self.assertIsInstance(node.targets[0], ast.Name)
                        self.assertFalse([part for part in ast.walk(node.value) if isinstance(part, ast.Call)])
                        seen.append(node.targets[0].id)
                    elif isinstance(node, ast.ImportFrom):
                        seen.extend(alias.name for alias in node.names)
                    else:
                        self.assertIsInstance(node, (ast.FunctionDef, ast.ClassDef))
                        seen.append(node.name)
                self.assertEqual(sorted(set(seen)), sorted(seen))


class Code(unittest.TestCase):
    def each(self):
        return [(f"{name}:{getattr(node, 'lineno', 0)}", node) for name in package_files()
                for node in nodes_of(name)]

    def test_statements_and_expressions(self):
        barred = (ast.Global, ast.Set, ast.GeneratorExp, ast.Await, ast.Yield, ast.YieldFrom, ast.Div,
                  ast.MatMult, ast.NamedExpr)
        for place, node in self.each():
            with self.subTest(place=place):
                self.assertNotIsInstance(node, barred)
                if isinstance(node, ast.stmt):
                    self.assertIsInstance(node, STATEMENTS)
                if isinstance(node, ast.Constant):
                    self.assertNotIsInstance(node.value, (float, complex, type(...)))
                    if isinstance(node.value, str):
                        self.assertNotIn("%", node.value)
                if isinstance(node, ast.BinOp) and isinstance(node.op, ast.Pow):
                    self.assertIsInstance(node.right, ast.Constant)
                    self.assertIn(node.right.value, range(65))
                if isinstance(node, ast.FunctionDef):
                    self.assertLessEqual({ast.unparse(each) for each in node.decorator_list}, {"property"})
                    self.assertEqual([], node.args.defaults)

    def test_is_stands_beside_none_true_and_false_and_self(self):
        for place, node in self.each():
            with self.subTest(place=place):
                if isinstance(node, ast.Compare) and ast.unparse(node) != "self is other":
                    for sign, right in zip(node.ops, node.comparators):
                        if isinstance(sign, (ast.Is, ast.IsNot)):
                            self.assertIsInstance(right, ast.Constant)
                            self.assertIn(right.value, (None, True, False))

    def test_classes(self):
        for name in package_files():
            for top in ast.parse(source_of(name)).body:
                if not isinstance(top, ast.ClassDef):
                    continue
                with self.subTest(file=name, name=top.name):
                    self.assertEqual([], top.decorator_list)
                    methods = [node for node in top.body if isinstance(node, ast.FunctionDef)]
                    docstrings = [node for node in top.body if isinstance(node, ast.Expr)]
                    self.assertEqual(len(top.body), len(methods) + len(docstrings))
                    names = [method.name for method in methods]
                    self.assertEqual(sorted(set(names)), sorted(names))
                    attributes = {node.attr for node in ast.walk(top) if isinstance(node, ast.Attribute)
                                  and isinstance(node.ctx, ast.Store)}
                    self.assertEqual(set(), attributes & set(names))
                    for method in methods:
                        if method.name == "__exit__":
                            self.check_exit(method)

    def check_exit(self, method):
        """Only what may stand in the rows of __exit__: names and attributes assigned, and `kind is not None`."""
        self.assertEqual("self, kind, value, trace", ast.unparse(method.args))
        for node in ast.walk(method):
            if isinstance(node, ast.stmt) and node is not method:
                self.assertIsInstance(node, (ast.Assign, ast.If))
            if isinstance(node, ast.Assign):
                self.assertIsInstance(node.targets[0], (ast.Name, ast.Attribute))
                self.assertIsInstance(node.value, ast.Attribute)
            if isinstance(node, ast.If):
                self.assertEqual("kind is not None", ast.unparse(node.test))

    def test_stars_stand_before_names(self):
        for place, node in self.each():
            with self.subTest(place=place):
                if isinstance(node, ast.Starred):
                    self.assertIsInstance(node.value, ast.Name)

    def test_words_that_do_not_occur(self):
        for name in package_files():
            with self.subTest(file=name):
                self.assertNotIn("_wall", source_of(name))
                self.assertNotIn("_WallAttr", source_of(name))
                for word in ("dataclass", "overload", "contextmanager"):
                    self.assertNotIn(word, source_of(name))

    def test_handlers_name_errors_that_may_be_caught(self):
        for place, node in self.each():
            with self.subTest(place=place):
                if isinstance(node, ast.ExceptHandler):
                    self.assertIsInstance(node.type, ast.Name)
                    self.assertFalse(hasattr(builtins, node.type.id)
                                     and node.type.id not in ("KeyError", "ZeroDivisionError"))

    def test_builtins_and_methods(self):
        own = {inner.name for name in package_files() for inner in nodes_of(name)
               if isinstance(inner, (ast.FunctionDef, ast.ClassDef))}
        for place, node in self.each():
            with self.subTest(place=place):
                if isinstance(node, ast.Name) and hasattr(builtins, node.id):
                    self.assertIn(node.id, BUILTINS)
                    self.assertIsInstance(node.ctx, ast.Load)
                if isinstance(node, ast.Call) and isinstance(node.func, ast.Attribute):
                    self.assertIn(node.func.attr, METHODS | own)

    def test_sets_are_sorted_measured_or_asked_at_once(self):
        for name in package_files():
            nodes = nodes_of(name)
            parents = {inner: node for node in nodes for inner in ast.iter_child_nodes(node)}
            for node in nodes:
                is_set = isinstance(node, ast.SetComp)
                if isinstance(node, ast.Call) and isinstance(node.func, ast.Name):
                    is_set = node.func.id in ("set", "frozenset")
                if is_set:
                    above = parents[node]
                    with self.subTest(file=name, line=node.lineno):
                        self.assertIsInstance(above, ast.Call)
                        self.assertIn(above.func.id, ("sorted", "len"))

    def test_names(self):
        for place, node in self.each():
            with self.subTest(place=place):
                for told in ("id", "arg", "attr", "name"):
                    word = getattr(node, told, None)
                    if not isinstance(word, str):
                        continue
                    self.assertNotIn(word, BARRED)
                    self.assertIsNone(re.match(r"_wall|_pe_|_sre|_law_|_cold|_record|_outside", word))
                    if word.startswith("__"):
                        self.assertIn(word, DUNDERS)

    def test_no_name_of_a_function_is_that_of_an_import_class_or_builtin(self):
        for name in package_files():
            tree = ast.parse(source_of(name))
            taken = {alias.name for node in tree.body if isinstance(node, ast.ImportFrom)
                     for alias in node.names}
            taken |= {node.name for node in tree.body if isinstance(node, (ast.ClassDef, ast.FunctionDef))}
            for node in tree.body:
                if isinstance(node, (ast.FunctionDef, ast.ClassDef)):
                    self.assertFalse(hasattr(builtins, node.name))
                if isinstance(node, ast.FunctionDef):
                    with self.subTest(file=name, function=node.name):
                        self.assertEqual(set(), bound_names(node) & taken)
                        self.assertEqual([], [word for word in bound_names(node) if hasattr(builtins, word)])


if __name__ == "__main__":
    unittest.main()
