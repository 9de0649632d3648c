"""The rules of LANGUAGE.md, as far as the source itself shows whether they are kept."""

import ast
import io
import pathlib
import re
import tokenize
import unittest

PACKAGE = pathlib.Path(__file__).resolve().parent.parent / "formsalike"

BUILTINS = set("""len range enumerate zip min max sum abs sorted reversed int str bool bytes list tuple dict set
    frozenset isinstance ord repr any all divmod pow getattr hasattr setattr iter next map super property
    staticmethod classmethod object float Exception ValueError TypeError KeyError IndexError LookupError
    ZeroDivisionError ArithmeticError OverflowError RuntimeError NotImplementedError AttributeError StopIteration
    NotImplemented""".split())

METHODS = set("""append clear copy count endswith extend find get index insert isalnum isalpha isdigit islower isspace
    isupper items join keys ljust lower lstrip partition pop remove replace reverse rfind rjust rpartition rsplit
    rstrip setdefault split splitlines startswith strip update upper values zfill bit_length title capitalize
    swapcase casefold center expandtabs removeprefix removesuffix rindex isascii isdecimal isnumeric istitle
    isidentifier isprintable sort""".split())

BARRED_ATTRIBUTES = set("""items keys values pop update append clear extend insert remove reverse setdefault sort args
    encode decode hex fromhex format format_map mro""".split())

BARRED_NAMES = set("""register mro elements open input law version_info with_traceback add_note attrgetter breakpoint
    builtins compile copyright credits delattr dir eval exec exit gc globals help id importlib license locals
    methodcaller os quit type vars sys""".split())

BARRED_WORDS = set("""type typing typing_extensions enum Enum IntEnum StrEnum Flag IntFlag Generic Protocol ABC ABCMeta
    namedtuple NamedTuple TypedDict TYPE_CHECKING abstractmethod""".split())

PLAIN_NODES = (ast.Constant, ast.Tuple, ast.List, ast.Dict, ast.UnaryOp, ast.BinOp, ast.operator,
               ast.unaryop, ast.expr_context)

AT_ONCE = ("zip", "enumerate", "reversed", "range", "items", "keys", "values")
ITERATING = ("list", "tuple", "dict", "sorted", "sum", "any", "all", "enumerate", "zip", "min", "max", "join")

FILES = sorted(PACKAGE.rglob("*.py"))
TREES = {path: ast.parse(path.read_text("utf-8")) for path in FILES}


def name_of_call(node):
    if isinstance(node.func, ast.Name):
        return node.func.id
    return node.func.attr if isinstance(node.func, ast.Attribute) else ""


def bound_names(node):
    """The names that a function or a module assigns, its parameters and imports included."""
    found = set()
    for inner in ast.walk(node):
        if isinstance(inner, ast.Name) and not isinstance(inner.ctx, ast.Load):
            found.add(inner.id)
        elif isinstance(inner, ast.arg):
            found.add(inner.arg)
        elif isinstance(inner, (ast.FunctionDef, ast.ClassDef)):
            found.add(inner.name)
        elif isinstance(inner, ast.alias):
            found.add(inner.asname or inner.name)
        elif isinstance(inner, ast.ExceptHandler) and inner.name:
            found.add(inner.name)
    return found


def top_names(tree):
    """The names that a module binds, each as often as it is bound."""
    found = []
    for node in tree.body:
        if isinstance(node, (ast.FunctionDef, ast.ClassDef)):
            found.append(node.name)
        elif isinstance(node, ast.ImportFrom):
            found.extend(alias.asname or alias.name for alias in node.names)
        elif isinstance(node, ast.Assign):
            found.append(node.targets[0].id)
    return found


class LanguageTest(unittest.TestCase):
    def nodes(self, *kinds):
        for path, tree in TREES.items():
            for node in ast.walk(tree):
                if isinstance(node, kinds):
                    yield node, "%s:%s" % (path.relative_to(PACKAGE.parent), getattr(node, "lineno", 0))

    def test_files(self):
        self.assertTrue(FILES)
        self.assertLessEqual(len(FILES), 100)
        for path in PACKAGE.rglob("*"):
            if "__pycache__" in path.parts:
                continue
            if path.is_dir():
                self.assertTrue((path / "__init__.py").exists(), path)
                self.assertFalse(path.with_suffix(".py").exists(), path)
            self.assertTrue(path.is_dir() or path.suffix == ".py", path)
            self.assertRegex(path.stem, r"\A(__init__|[a-z][a-z0-9_]*)\Z")
            self.assertFalse(path.name.startswith("test") or path.stem in BUILTINS | BARRED_WORDS, path)

    def test_sizes_and_characters(self):
        for path in FILES:
            source = path.read_text("utf-8")
            self.assertTrue(all(character == "\n" or " " <= character <= "~" for character in source), path)
            self.assertLessEqual(len(source.splitlines()), 399, path)
            self.assertLessEqual(max([len(line) for line in source.splitlines()]), 120, path)
        for node, place in self.nodes(ast.FunctionDef):
            self.assertLessEqual(node.end_lineno - node.lineno + 1, 40, place)

    def test_imports_name_the_file_that_defines(self):
        for node, place in self.nodes(ast.Import):
            self.fail(place)
        for node, place in self.nodes(ast.ImportFrom):
            self.assertEqual(node.level, 0, place)
            self.assertTrue(node.module.startswith("formsalike."), place)
            path = PACKAGE.parent.joinpath(*node.module.split(".")).with_suffix(".py")
            self.assertIn(path, TREES, place)
            own = [name for name in top_names(TREES[path]) if name not in self.imported(TREES[path])]
            for alias in node.names:
                self.assertIsNone(alias.asname, place)
                self.assertIn(alias.name, own, place)

    def imported(self, tree):
        return [alias.name for node in tree.body if isinstance(node, ast.ImportFrom) for alias in node.names]

    def test_imports_make_no_circle(self):
        ways = {}
        for path, tree in TREES.items():
            module = ".".join(path.relative_to(PACKAGE.parent).with_suffix("").parts)
            ways[module] = [node.module for node in tree.body if isinstance(node, ast.ImportFrom)]

        def visit(module, above):
            self.assertNotIn(module, above)
            for other in ways[module]:
                visit(other, above + [module])

        for module in ways:
            visit(module, [])

    def test_module_level(self):
        for path, tree in TREES.items():
            names = top_names(tree)
            self.assertEqual(len(names), len(set(names)), path)
            for at, node in enumerate(tree.body):
                if isinstance(node, ast.Expr):
                    self.assertTrue(at == 0 and isinstance(node.value, ast.Constant), path)
                elif isinstance(node, ast.Assign):
                    self.assertTrue(len(node.targets) == 1 and isinstance(node.targets[0], ast.Name), path)
                    self.check_plain(node.value, path)
                else:
                    self.assertIsInstance(node, (ast.ImportFrom, ast.FunctionDef, ast.ClassDef), path)

    def check_plain(self, value, path):
        for inner in ast.walk(value):
            self.assertIsInstance(inner, PLAIN_NODES, path)
            self.assertTrue(inner is value or not isinstance(inner, (ast.List, ast.Dict)), path)

    def test_statements(self):
        barred = (ast.Global, ast.AsyncFunctionDef, ast.AsyncFor, ast.AsyncWith, ast.Await, ast.Import, ast.AnnAssign,
                  ast.MatMult, ast.Div)
        for node, place in self.nodes(*barred):
            self.fail(place)
        for node, place in self.nodes(ast.FunctionDef, ast.ClassDef):
            words = [decorator.id for decorator in node.decorator_list if isinstance(decorator, ast.Name)]
            self.assertTrue(set(words) <= {"property", "staticmethod", "classmethod"}, place)

    def test_classes(self):
        for node, place in self.nodes(ast.ClassDef):
            self.assertIn(node, [top for tree in TREES.values() for top in tree.body], place)
            methods = [inner.name for inner in node.body if isinstance(inner, ast.FunctionDef)]
            self.assertEqual(len(methods), len(set(methods)), place)
            for inner in ast.walk(node):
                if isinstance(inner, ast.Attribute) and isinstance(inner.ctx, ast.Store):
                    self.assertNotIn(inner.attr, methods, place)

    def test_constants(self):
        for node, place in self.nodes(ast.Constant):
            self.assertNotIsInstance(node.value, (float, complex), place)
            if isinstance(node.value, str):
                self.assertNotIn("%", node.value, place)
                self.assertFalse(re.search(r"(^|[^a-zA-Z0-9_])__|\._\Z|\.__\Z", node.value), place)

    def test_escapes(self):
        for path in FILES:
            for token in tokenize.generate_tokens(io.StringIO(path.read_text("utf-8")).readline):
                if token.type == tokenize.STRING:
                    self.assertTrue(set(re.findall(r"\\(.)", token.string)) <= set("nt\\\"'"), token)

    def test_builtins(self):
        for path, tree in TREES.items():
            known = bound_names(tree)
            for node in ast.walk(tree):
                if isinstance(node, ast.Name) and isinstance(node.ctx, ast.Load) and node.id not in known:
                    self.assertIn(node.id, BUILTINS, "%s:%s" % (path, node.lineno))

    def test_names(self):
        every_builtin = set(dir(__builtins__) if not isinstance(__builtins__, dict) else __builtins__)
        for path, tree in TREES.items():
            methods = {inner.name for node in ast.walk(tree) if isinstance(node, ast.ClassDef)
                       for inner in node.body if isinstance(inner, ast.FunctionDef)}
            for name in bound_names(tree):
                self.assertFalse(name in every_builtin, (path, name))
                self.assertFalse(name in BARRED_NAMES, (path, name))
                self.assertFalse(name.startswith("__") and name not in methods, (path, name))
                self.assertRegex(name, r"\A(_?[A-Za-z][A-Za-z0-9_]*|_|__[a-z]+__)\Z")
                self.assertFalse(name.startswith(("_wall", "_pe_", "_dcw_", "_enum_", "_cm_", "_lay_", "_law_")), name)

    def test_local_names_do_not_hide_imports_and_classes(self):
        for path, tree in TREES.items():
            hidden = set(self.imported(tree)) | {node.name for node in tree.body if isinstance(node, ast.ClassDef)}
            for node in ast.walk(tree):
                if isinstance(node, ast.FunctionDef):
                    self.assertFalse((bound_names(node) - {node.name}) & hidden, (path, node.name))

    def test_barred_words(self):
        for path in FILES:
            for token in tokenize.generate_tokens(io.StringIO(path.read_text("utf-8")).readline):
                if token.type in (tokenize.NAME, tokenize.STRING) and not token.string.startswith('"""'):
                    self.assertFalse(set(re.findall(r"\w+", token.string)) & BARRED_WORDS, (path, token))

    def test_methods_and_attributes(self):
        own, stored = set(), set()
        for node, _ in self.nodes(ast.ClassDef):
            own |= {inner.name for inner in node.body if isinstance(inner, ast.FunctionDef)}
        for node, place in self.nodes(ast.Attribute):
            if isinstance(node.ctx, ast.Store):
                self.assertIsInstance(node.value, ast.Name, place)
                self.assertNotIn(node.attr, BARRED_ATTRIBUTES | BARRED_NAMES, place)
                stored.add(node.attr)
        for node, place in self.nodes(ast.Call):
            if isinstance(node.func, ast.Attribute):
                self.assertIn(node.func.attr, METHODS | own, place)
            else:
                self.assertIsInstance(node.func, ast.Name, place)
        for node, place in self.nodes(ast.Attribute):
            self.assertIn(node.attr, METHODS | own | stored, place)

    def test_is_stands_beside_none_and_truths(self):
        for node, place in self.nodes(ast.Compare):
            for sign, other in zip(node.ops, node.comparators):
                if isinstance(sign, (ast.Is, ast.IsNot)):
                    self.assertTrue(isinstance(other, ast.Constant) and other.value in (None, True, False), place)

    def test_exponents_are_small(self):
        for node, place in self.nodes(ast.BinOp):
            if isinstance(node.op, ast.Pow):
                self.assertTrue(isinstance(node.right, ast.Constant) and 0 <= node.right.value <= 64, place)

    def test_iterated_at_once(self):
        generators = {node.name for node, _ in self.nodes(ast.FunctionDef)
                      if any(isinstance(inner, (ast.Yield, ast.YieldFrom)) for inner in ast.walk(node))}
        for path, tree in TREES.items():
            allowed = set()
            for node in ast.walk(tree):
                if isinstance(node, (ast.For, ast.comprehension)):
                    allowed.add(node.iter)
                elif isinstance(node, ast.Call) and name_of_call(node) in ITERATING and node.args:
                    allowed.add(node.args[0])
                elif isinstance(node, ast.YieldFrom):
                    allowed.add(node.value)
            for node in ast.walk(tree):
                if isinstance(node, ast.Call) and name_of_call(node) in generators | set(AT_ONCE):
                    self.assertIn(node, allowed, "%s:%s" % (path, node.lineno))

    def test_loops_do_not_change_what_they_go_over(self):
        changing = ("append", "clear", "extend", "insert", "pop", "remove", "reverse", "setdefault", "update", "sort")
        for node, place in self.nodes(ast.For):
            over = ast.unparse(node.iter)
            for inner in ast.walk(node):
                if isinstance(inner, ast.Call) and name_of_call(inner) in changing:
                    self.assertNotEqual(ast.unparse(inner.func.value), over, place)

    def test_errors_are_created_on_the_spot(self):
        classes = {node.name for node, _ in self.nodes(ast.ClassDef)}
        for node, place in self.nodes(ast.Raise):
            if node.exc is not None:
                self.assertIsInstance(node.exc, ast.Call, place)
                self.assertIn(name_of_call(node.exc), classes, place)
        for node, place in self.nodes(ast.ExceptHandler):
            self.assertIsNotNone(node.type, place)

    def test_no_sets_and_no_bytes_are_made(self):
        for node, place in self.nodes(ast.Call):
            self.assertNotIn(name_of_call(node), ("bytes", "to_bytes", "fromhex", "frozenset", "chr"), place)
        for node, place in self.nodes(ast.Set):
            self.assertLess(len([one for one in node.elts if isinstance(one, ast.Constant)]), 3, place)


if __name__ == "__main__":
    unittest.main()
