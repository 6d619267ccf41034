"""The package keeps to the small subset of Python that it is written in, as far as a test can see it."""

import ast
import builtins
import io
import pathlib
import tokenize
import unittest

PACKAGE = pathlib.Path(__file__).resolve().parent.parent / "twocompanies"
FILES = sorted(PACKAGE.rglob("*.py"))

BUILTINS = set("""len range enumerate zip min max sum abs sorted reversed int str bool list tuple dict set isinstance ord
repr any all divmod Exception ValueError KeyError cls""".split())
METHODS = set("""append clear copy count endswith extend find get index insert isalnum isalpha isdigit islower isspace
isupper items join keys ljust lower lstrip partition pop remove replace reverse rfind rjust rpartition rsplit rstrip
setdefault split splitlines startswith strip update upper values zfill""".split())
WORDS = set("""type typing enum Enum Flag Generic Protocol ABC namedtuple register mro elements open input law
version_info with_traceback add_note eval exec exit globals locals vars dir help id os compile super""".split())
LISTS_TAKEN = {"any", "all", "sum", "min", "max", "sorted"}
BARRED = (ast.Lambda, ast.GeneratorExp, ast.Global, ast.Nonlocal, ast.AsyncFunctionDef, ast.Await, ast.Yield,
          ast.YieldFrom, ast.Set, ast.SetComp, ast.Div, ast.MatMult, ast.With, ast.AnnAssign, ast.Match, ast.NamedExpr)
DUNDERS = {"__init__", "__eq__", "__len__", "__str__"}


def trees():
    return [(path, ast.parse(path.read_text())) for path in FILES]


def tables(tree):
    """The names of the dicts at module level whose values are functions."""
    return {node.targets[0].id for node in tree.body if isinstance(node, ast.Assign) and isinstance(node.value, ast.Dict)
            and any(isinstance(value, ast.Name) for value in node.value.values)}


def picked_from_tables(tree):
    """The names that are assigned a function of such a dict."""
    found = tables(tree)
    return {node.targets[0].id for node in ast.walk(tree) if isinstance(node, ast.Assign) and isinstance(node.value, ast.Subscript)
            and isinstance(node.value.value, ast.Name) and node.value.value.id in found}


class Language(unittest.TestCase):
    def test_files(self):
        self.assertIn(PACKAGE / "__init__.py", FILES)
        for path in PACKAGE.rglob("*"):
            if "__pycache__" not in path.parts and not path.is_dir():
                self.assertEqual(path.suffix, ".py")
                self.assertRegex(path.stem, "^[a-z0-9_]+$")
                self.assertNotIn(path.stem, dir(builtins))
        self.assertLessEqual(len(FILES), 100)

    def test_lines_and_characters(self):
        for path in FILES:
            text = path.read_text()
            self.assertTrue(all(" " <= sign <= "~" or sign == "\n" for sign in text), path)
            self.assertLessEqual(text.count("\n"), 399, path)
            self.assertLessEqual(max(map(len, text.split("\n"))), 120, path)

    def test_functions_are_short(self):
        for path, tree in trees():
            for node in ast.walk(tree):
                if isinstance(node, ast.FunctionDef):
                    self.assertLessEqual(node.end_lineno - node.lineno + 1, 40, (path, node.name))
                    self.assertIsNotNone(ast.get_docstring(node) or node.name[:2] == "__" or None, (path, node.name))

    def test_imports(self):
        edges = {}
        for path, tree in trees():
            for at, node in enumerate(tree.body):
                if isinstance(node, ast.ImportFrom):
                    self.assertEqual(node.level, 0)
                    self.assertTrue(all(name.asname is None for name in node.names))
                    if node.module == "math":
                        self.assertEqual([name.name for name in node.names], ["gcd"])
                        continue
                    head, _, tail = node.module.partition(".")
                    self.assertEqual(head, "twocompanies")
                    edges.setdefault(path.stem, set()).add(tail)
                    own = {part.name for part in ast.parse((PACKAGE / (tail + ".py")).read_text()).body
                           if isinstance(part, (ast.FunctionDef, ast.ClassDef))}
                    own |= {part.targets[0].id for part in ast.parse((PACKAGE / (tail + ".py")).read_text()).body
                            if isinstance(part, ast.Assign)}
                    self.assertTrue({name.name for name in node.names} <= own, (path, node.module))
            inner = [node for node in ast.walk(tree) if isinstance(node, (ast.Import, ast.ImportFrom))]
            self.assertTrue(all(node in tree.body for node in inner), path)
        while edges:
            free = [stem for stem, tails in edges.items() if not tails & set(edges)]
            self.assertTrue(free, f"files import from each other: {sorted(edges)}")
            for stem in free:
                del edges[stem]

    def test_every_import_is_used(self):
        for path, tree in trees():
            names = [name.name for node in tree.body if isinstance(node, ast.ImportFrom) for name in node.names]
            used = {node.id for node in ast.walk(tree) if isinstance(node, ast.Name)}
            self.assertEqual([name for name in names if name not in used], [], path)

    def test_statements_and_expressions(self):
        for path, tree in trees():
            for node in ast.walk(tree):
                self.assertNotIsInstance(node, BARRED, (path, getattr(node, "lineno", 0)))
                if isinstance(node, ast.Constant):
                    self.assertNotIsInstance(node.value, (float, complex), path)
                    if isinstance(node.value, str):
                        self.assertNotIn(chr(37), node.value, path)
                if isinstance(node, ast.BinOp) and isinstance(node.op, ast.Pow):
                    self.fail((path, node.lineno))
                if isinstance(node, ast.Compare):
                    for sign, side in zip(node.ops, node.comparators):
                        if isinstance(sign, (ast.Is, ast.IsNot)):
                            self.assertIsInstance(side, ast.Constant, path)

    def test_calls(self):
        own = {node.name for _, tree in trees() for node in ast.walk(tree) if isinstance(node, (ast.FunctionDef, ast.ClassDef))}
        for path, tree in trees():
            passed = {node.arg for node in ast.walk(tree) if isinstance(node, ast.arg)} & {"steps"}
            passed |= picked_from_tables(tree)
            for node in ast.walk(tree):
                if not isinstance(node, ast.Call):
                    continue
                if isinstance(node.func, ast.Name):
                    self.assertIn(node.func.id, BUILTINS | own | passed | {"gcd"}, (path, node.lineno))
                    if node.func.id in LISTS_TAKEN and len(node.args) == 1:
                        self.assertNotIsInstance(node.args[0], ast.GeneratorExp, (path, node.lineno))
                    if node.func.id == "set":
                        self.fail((path, node.lineno))
                else:
                    self.assertIn(node.func.attr, METHODS | own, (path, node.lineno))
                    self.assertEqual([word.arg for word in node.keywords if node.func.attr in METHODS], [], path)

    def test_names(self):
        for path, tree in trees():
            imported = {name.name for node in tree.body if isinstance(node, ast.ImportFrom) for name in node.names}
            classes = {node.name for node in tree.body if isinstance(node, ast.ClassDef)}
            bound = [node.name for node in tree.body if isinstance(node, (ast.FunctionDef, ast.ClassDef))]
            bound += [node.targets[0].id for node in tree.body if isinstance(node, ast.Assign)] + sorted(imported)
            self.assertEqual(len(bound), len(set(bound)), path)
            for node in ast.walk(tree):
                name = None
                if isinstance(node, ast.arg):
                    name = node.arg
                elif isinstance(node, ast.Name) and isinstance(node.ctx, ast.Store):
                    name = node.id
                elif isinstance(node, ast.FunctionDef):
                    self.assertTrue(node.name in DUNDERS or node.name[:2] != "__", (path, node.name))
                    self.assertFalse(node.name in dir(builtins) and node.name not in DUNDERS, (path, node.name))
                if name is not None:
                    self.assertNotIn(name, imported | classes, (path, node.lineno))
                    self.assertFalse(hasattr(builtins, name), (path, node.lineno))
                    self.assertFalse(name[:1] == "_" and name != "_", (path, node.lineno))
                if isinstance(node, ast.Name) and isinstance(node.ctx, ast.Load):
                    self.assertNotEqual(node.id, "_", (path, node.lineno))

    def test_barred_words(self):
        for path in FILES:
            for token in tokenize.generate_tokens(io.StringIO(path.read_text()).readline):
                if token.type == tokenize.NAME:
                    self.assertNotIn(token.string, WORDS, (path, token.start))

    def test_module_level(self):
        kinds = (ast.ImportFrom, ast.FunctionDef, ast.ClassDef, ast.Assign, ast.Expr)
        for path, tree in trees():
            for node in tree.body:
                self.assertIsInstance(node, kinds, path)
                if isinstance(node, ast.Expr):
                    self.assertIsInstance(node.value, ast.Constant, path)
                if isinstance(node, ast.Assign) and node.targets[0].id in tables(tree):
                    above = {own.name for own in tree.body if isinstance(own, ast.FunctionDef) and own.lineno < node.lineno}
                    for key, value in zip(node.value.keys, node.value.values):
                        self.assertIsInstance(key, ast.Constant, path)
                        self.assertIn(value.id, above, path)
                elif isinstance(node, ast.Assign):
                    kept = ast.literal_eval(node.value)
                    inner = list(kept.values()) if isinstance(kept, dict) else list(kept) if isinstance(kept, (list, tuple)) else []
                    self.assertFalse([part for part in inner if isinstance(part, (list, dict))], (path, node.lineno))

    def test_lists_and_dicts_at_module_level_are_only_read(self):
        for path, tree in trees():
            names = {node.targets[0].id for node in tree.body if isinstance(node, ast.Assign) and isinstance(node.value, (ast.Dict, ast.List))}
            read = set()
            for node in ast.walk(tree):
                if isinstance(node, ast.Subscript) and isinstance(node.ctx, ast.Load):
                    read.add(node.value)
                if isinstance(node, ast.Attribute) and node.attr in ("get", "items", "values", "keys", "index"):
                    read.add(node.value)
                if isinstance(node, ast.Compare) and isinstance(node.ops[0], (ast.In, ast.NotIn)):
                    read.add(node.comparators[0])
            for node in ast.walk(tree):
                if isinstance(node, ast.Name) and node.id in names and isinstance(node.ctx, ast.Load):
                    self.assertIn(node, read, (path, node.lineno))

    def test_handlers_catch_own_errors(self):
        own = {node.name for node in ast.parse((PACKAGE / "errors.py").read_text()).body if isinstance(node, ast.ClassDef)}
        for path, tree in trees():
            for node in ast.walk(tree):
                if isinstance(node, ast.ExceptHandler):
                    self.assertIsInstance(node.type, ast.Name, path)
                    self.assertIn(node.type.id, own, (path, node.lineno))
                if isinstance(node, ast.Raise):
                    self.assertIsInstance(node.exc, ast.Call, (path, node.lineno))
                    self.assertIn(node.exc.func.id, own, (path, node.lineno))

    def test_methods_and_attributes(self):
        methods, attributes = {}, {}
        for path, tree in trees():
            for made in [node for node in tree.body if isinstance(node, ast.ClassDef)]:
                named = [node.name for node in made.body if isinstance(node, ast.FunctionDef)]
                self.assertEqual(len(named), len(set(named)), (path, made.name))
                methods[made.name] = set(named)
                attributes[made.name] = {node.attr for node in ast.walk(made) if isinstance(node, ast.Attribute)
                                         and isinstance(node.ctx, ast.Store) and node.value.id == "self"}
        everything = set().union(*attributes.values())
        for name, named in methods.items():
            self.assertEqual(named & everything, set(), name)
