"""Those rules of LANGUAGE.md that can be seen in the code of the package.

Some checks are narrower than the rules: what the program has no need of is left out here.
"""

import ast
import builtins
import functools
import importlib
import pathlib
import re
import tokenize
import unittest

PACKAGE = pathlib.Path(__file__).resolve().parent.parent / "tallgrass"
BUILTINS = set("""len range enumerate zip min max sum abs sorted reversed int str bool list tuple dict set isinstance
    ord repr any all divmod iter property classmethod staticmethod ValueError""".split())
PYTHONS = set(dir(builtins)) - {"_"}
METHODS = set("""append clear copy count endswith extend find get index insert isalnum isalpha isdigit islower isspace
    isupper items join keys ljust lower lstrip partition pop remove replace reverse rfind rjust rpartition rsplit
    rstrip setdefault split splitlines startswith strip update upper values zfill bit_length add discard""".split())
ATTRIBUTES_BARRED = set("""items keys values pop update append clear extend insert remove reverse setdefault sort args
    encode decode hex fromhex format format_map mro""".split())
BARRED = set("""register mro elements open input law version_info with_traceback add_note attrgetter breakpoint
    builtins compile copyright credits delattr dir eval exec exit gc getattr globals hasattr help id importlib license
    locals methodcaller os quit setattr super type vars sys""".split())
WORDS_BARRED = set("""type typing typing_extensions enum Enum IntEnum StrEnum Flag IntFlag Generic Protocol ABC ABCMeta
    namedtuple NamedTuple TypedDict TYPE_CHECKING abstractmethod""".split())
NODES_BARRED = (ast.AsyncFunctionDef, ast.Await, ast.AsyncFor, ast.AsyncWith, ast.Global, ast.GeneratorExp, ast.Import,
                ast.AnnAssign, ast.Lambda, ast.NamedExpr, ast.Match, ast.With, ast.Assert)
PREFIXES = ("_wall", "_pe_", "_dcw_", "_enum_", "_cm_", "_twin_re_", "_lay_", "_law_", "_stub_", "_sre", "_WallAttr")
DUNDERS = set("""__init__ __eq__ __len__ __iter__ __contains__ __add__ __sub__ __and__ __or__ __xor__ __invert__
    __call__""".split())


def files():
    return sorted(PACKAGE.rglob("*.py"))


def module_name(path):
    parts = list(path.relative_to(PACKAGE.parent).with_suffix("").parts)
    return ".".join(parts[:-1] if parts[-1] == "__init__" else parts)


@functools.cache
def trees():
    return [(path, ast.parse(path.read_text(encoding="utf-8"))) for path in files()]


def nodes(kind):
    return [(path, node) for path, tree in trees() for node in ast.walk(tree) if isinstance(node, kind)]


def functions():
    return nodes(ast.FunctionDef)


def parameters(function):
    given = function.args
    named = given.posonlyargs + given.args + given.kwonlyargs + [given.vararg, given.kwarg]
    return [one.arg for one in named if one is not None]


def stored_names(tree):
    return [node.id for node in ast.walk(tree) if isinstance(node, ast.Name) and not isinstance(node.ctx, ast.Load)]


class Files(unittest.TestCase):
    def test_names_and_folders(self):
        found = [path for path in PACKAGE.rglob("*") if "__pycache__" not in path.parts]
        self.assertLessEqual(len(files()), 100)
        for path in found:
            self.assertRegex(path.name, r"^(__init__\.py|[a-z][a-z0-9_]*(\.py)?)$")
            self.assertNotIn(path.stem, BARRED | WORDS_BARRED | PYTHONS)
            if path.is_dir():
                self.assertTrue((path / "__init__.py").is_file(), path)
            self.assertFalse(path.is_file() and path.with_suffix("").is_dir(), path)

    def test_lines_and_signs(self):
        for path in files():
            text = path.read_text(encoding="utf-8")
            self.assertTrue(all(" " <= sign <= "~" or sign == "\n" for sign in text), path)
            lines = text.split("\n")
            self.assertLessEqual(len(lines), 400, path)
            self.assertLessEqual(max(map(len, lines)), 120, path)

    def test_functions_are_short(self):
        for path, node in functions():
            self.assertLessEqual(node.end_lineno - node.lineno + 1, 40, (path, node.name))

    def test_words(self):
        for path in files():
            with open(path, "rb") as file:
                for token in tokenize.tokenize(file.readline):
                    if token.type == tokenize.NAME:
                        self.assertNotIn(token.string, WORDS_BARRED, path)
                    if token.type == tokenize.STRING and not token.string.startswith('"""'):
                        self.assertFalse(WORDS_BARRED & set(re.findall(r"\w+", token.string)), path)
                        self.assertNotIn("%", token.string)
                        self.assertNotRegex(token.string, r"\\[^n\\\"']")


class Modules(unittest.TestCase):
    def test_module_level(self):
        for path, tree in trees():
            for at, node in enumerate(tree.body):
                doc = at == 0 and isinstance(node, ast.Expr) and isinstance(node.value.value, str)
                fits = isinstance(node, (ast.ImportFrom, ast.FunctionDef, ast.ClassDef, ast.Assign))
                self.assertTrue(doc or fits, (path, node.lineno))
                if isinstance(node, ast.Assign):
                    self.check_plain(node.value, [one.name for one in tree.body[:at] if isinstance(one, ast.FunctionDef)])

    def check_plain(self, value, functions_above):
        """A plain value, or a dict of such and of functions defined above."""
        if isinstance(value, ast.Dict):
            for one in value.keys + value.values:
                if not isinstance(one, ast.Name):
                    ast.literal_eval(one)
                else:
                    self.assertIn(one.id, functions_above)
        else:
            ast.literal_eval(value)

    def test_imports(self):
        after = {}
        for path, tree in trees():
            name = module_name(path)
            after[name] = []
            for node in nodes_of(tree, ast.ImportFrom):
                self.assertIn(node, tree.body)
                self.assertEqual(node.level, 0)
                self.assertTrue(node.module.startswith("tallgrass."), path)
                after[name].append(node.module)
                source = ast.parse(pathlib.Path(importlib.import_module(node.module).__file__).read_text())
                own = [one.name for one in source.body if isinstance(one, (ast.FunctionDef, ast.ClassDef))]
                own += [target.id for one in source.body if isinstance(one, ast.Assign) for target in one.targets]
                for alias in node.names:
                    self.assertIsNone(alias.asname)
                    self.assertIn(alias.name, own, path)
                    self.assertIn(alias.name, names_read(tree), (path, "not used"))
        done = set()
        while len(done) < len(after):
            ready = [name for name in after if name not in done and set(after[name]) <= done]
            self.assertTrue(ready, "files import from each other")
            done.update(ready)

    def test_one_binding_at_module_level(self):
        for path, tree in trees():
            bound = bound_at_top(tree)
            self.assertEqual(len(bound), len(set(bound)), path)
            self.assertFalse(set(bound) & PYTHONS, path)


def nodes_of(tree, kind):
    return [node for node in ast.walk(tree) if isinstance(node, kind)]


def names_read(tree):
    return {node.id for node in nodes_of(tree, ast.Name) if isinstance(node.ctx, ast.Load)}


def bound_at_top(tree):
    bound = [alias.name for node in nodes_of(tree, ast.ImportFrom) for alias in node.names]
    bound += [node.name for node in tree.body if isinstance(node, (ast.FunctionDef, ast.ClassDef))]
    return bound + [node.targets[0].id for node in tree.body if isinstance(node, ast.Assign)]


class Names(unittest.TestCase):
    def test_locals_hide_nothing(self):
        for path, tree in trees():
            hidden = {alias.name for node in nodes_of(tree, ast.ImportFrom) for alias in node.names}
            hidden |= {node.name for node in tree.body if isinstance(node, ast.ClassDef)}
            for function in nodes_of(tree, ast.FunctionDef):
                for name in parameters(function) + stored_names(function):
                    self.assertNotIn(name, hidden | PYTHONS | BARRED | WORDS_BARRED, (path, function.name))

    def test_plain_names(self):
        for path, tree in trees():
            names = stored_names(tree) + [node.attr for node in nodes_of(tree, ast.Attribute)]
            names += [one for node in nodes_of(tree, ast.FunctionDef) for one in parameters(node)]
            names += [node.name for node in nodes_of(tree, (ast.FunctionDef, ast.ClassDef))]
            for name in names:
                self.assertFalse(name.startswith(PREFIXES), (path, name))
                if not name.startswith("__"):
                    self.assertRegex(name, r"^(_|_?[A-Za-z][A-Za-z0-9_]*)$")
                else:
                    self.assertIn(name, DUNDERS, path)

    def test_builtins(self):
        for path, tree in trees():
            self.assertFalse((names_read(tree) & PYTHONS) - BUILTINS, path)

    def test_methods_and_attributes(self):
        own = {one.name for _, node in nodes(ast.ClassDef) for one in node.body if isinstance(one, ast.FunctionDef)}
        values = {target.id for _, node in nodes(ast.ClassDef) for one in node.body if isinstance(one, ast.Assign)
                  for target in one.targets}
        stored = {node.attr for _, node in nodes(ast.Attribute) if isinstance(node.ctx, ast.Store)}
        self.assertFalse(stored & (own | values | ATTRIBUTES_BARRED))
        self.assertFalse(own & (METHODS | ATTRIBUTES_BARRED | BARRED))
        called = {id(node.func) for _, node in nodes(ast.Call)}
        properties = {one.name for _, one in functions() if one.decorator_list}
        decorators = {id(one) for _, function in functions() for one in function.decorator_list}
        for path, node in nodes(ast.Attribute):
            if id(node) in called:
                self.assertIn(node.attr, own | METHODS, path)
            elif id(node) in decorators:
                self.assertEqual(node.attr, "setter", path)
            elif isinstance(node.ctx, ast.Load):
                self.assertIn(node.attr, stored | values | properties, path)


class Statements(unittest.TestCase):
    def test_nothing_barred(self):
        for path, node in nodes(NODES_BARRED):
            self.fail((path, node.lineno))
        for path, node in nodes(ast.Constant):
            self.assertIsInstance(node.value, (int, str, type(None)), path)
        for path, node in nodes(ast.BinOp):
            self.assertNotIsInstance(node.op, (ast.Div, ast.MatMult, ast.Pow, ast.Mod), path)

    def test_decorators(self):
        for path, node in functions():
            for one in node.decorator_list:
                name = one.id if isinstance(one, ast.Name) else one.attr
                self.assertIn(name, ("property", "classmethod", "staticmethod", "setter"), path)

    def test_no_annotations(self):
        for path, node in functions():
            given = node.args.args + node.args.kwonlyargs
            self.assertTrue(node.returns is None and all(one.annotation is None for one in given), path)

    def test_handlers(self):
        module = importlib.import_module("tallgrass.base.errors")
        for path, node in nodes(ast.ExceptHandler):
            self.assertTrue(hasattr(module, node.type.id), (path, node.lineno))

    def test_raise(self):
        module = importlib.import_module("tallgrass.base.errors")
        for path, node in nodes(ast.Raise):
            self.assertTrue(node.exc is None or hasattr(module, node.exc.func.id), (path, node.lineno))

    def test_is(self):
        for path, node in nodes(ast.Compare):
            for operator, right in zip(node.ops, node.comparators):
                if isinstance(operator, (ast.Is, ast.IsNot)):
                    self.assertTrue(isinstance(right, ast.Constant) and right.value in (None, True, False), path)

    def test_sets_are_sorted_on_the_spot(self):
        allowed = set()
        for _, node in nodes(ast.Call):
            if isinstance(node.func, ast.Name) and node.func.id in ("sorted", "len"):
                parts = [node.args[0]]
                while parts:
                    part = parts.pop()
                    allowed.add((part.lineno, part.col_offset, ast.dump(part)))
                    if isinstance(part, ast.BinOp):
                        parts += [part.left, part.right]
        for path, node in nodes((ast.Call, ast.Set, ast.SetComp)):
            if not isinstance(node, ast.Call) or isinstance(node.func, ast.Name) and node.func.id == "set":
                self.assertIn((node.lineno, node.col_offset, ast.dump(node)), allowed, path)

    def test_generators_are_iterated_at_once(self):
        yielding = [node for _, node in functions() if nodes_of(node, (ast.Yield, ast.YieldFrom))]
        names = {node.name for node in yielding}
        self.assertEqual(len([node for _, node in functions() if node.name in names]), len(names))
        for node in yielding:
            self.assertFalse(node.decorator_list + nodes_of(node, ast.Try) + nodes_of(node, ast.With), node.name)
            statements = [one.value for one in nodes_of(node, ast.Expr)]
            for one in nodes_of(node, (ast.Yield, ast.YieldFrom)):
                self.assertIn(one, statements)
            for one in nodes_of(node, ast.Return):
                self.assertIsNone(one.value)
        iterated = {id(node.iter) for _, node in nodes((ast.For, ast.comprehension))}
        iterated |= {id(node.value) for _, node in nodes(ast.YieldFrom)}
        for _, node in nodes(ast.Call):
            if isinstance(node.func, ast.Name) and node.func.id in ("list", "tuple", "sorted", "enumerate", "sum"):
                iterated.add(id(node.args[0]))
        calls = {id(node.func): node for _, node in nodes(ast.Call)}
        for path, node in nodes((ast.Name, ast.Attribute)):
            if (node.id if isinstance(node, ast.Name) else node.attr) in names:
                self.assertIn(id(calls[id(node)]), iterated, path)

    def test_init_returns_nothing(self):
        for path, node in functions():
            if node.name == "__init__":
                self.assertFalse(nodes_of(node, ast.Return), path)


if __name__ == "__main__":
    unittest.main()
