"""What of the rules of the program's language can be seen from its syntax trees."""

import ast
import builtins
import pathlib
import re
import unittest

FOLDER = pathlib.Path(__file__).resolve().parent.parent / "stronggens"
FILES = sorted(FOLDER.glob("*.py"))
TREES = {path: ast.parse(path.read_text(encoding="ascii")) for path in FILES}
LIBRARY = {
    "math": {"gcd", "lcm", "isqrt", "comb", "perm", "factorial"}, "itertools": {"combinations", "permutations"},
}
BUILTINS = set("""len range enumerate zip min max sum abs sorted reversed int str bool list tuple dict set isinstance ord
repr any all divmod type ValueError""".split())
METHODS = set("""append clear copy count endswith extend find get index insert isalnum isalpha isdigit islower isspace
isupper items join keys ljust lower lstrip partition pop remove replace reverse rfind rjust rpartition rsplit rstrip
setdefault split splitlines startswith strip update upper values zfill bit_length add discard __init__""".split())
NO_ATTRIBUTES = set("""items keys values pop update append clear extend insert remove reverse setdefault sort args encode
decode hex fromhex format format_map mro conjugate from_bytes to_bytes is_integer bit_count as_integer_ratio""".split())
BARRED = set("""register mro elements open input law version_info with_traceback add_note attrgetter breakpoint builtins
compile copyright credits delattr dir eval exec exit gc getattr globals hasattr help id importlib license locals
methodcaller os quit setattr super vars sys""".split())
BARRED_WORDS = re.compile(r"\b(typing|typing_extensions|enum|Enum|Generic|Protocol|ABC|namedtuple|TypedDict)\b")
STATEMENTS = (
    ast.Assign, ast.AugAssign, ast.If, ast.While, ast.For, ast.Return, ast.Break, ast.Continue, ast.Pass, ast.Raise,
    ast.Assert, ast.Delete, ast.Try, ast.Expr, ast.FunctionDef, ast.ClassDef, ast.ImportFrom,
)
AT_ONCE = {"zip", "enumerate", "reversed", "range"}
TAKERS = {"list", "tuple", "dict", "sorted", "sum", "any", "all", "enumerate", "zip", "min", "max"}


def parents_of(tree):
    return {child: node for node in ast.walk(tree) for child in ast.iter_child_nodes(node)}


def bound_names(tree):
    """The names that parameters and assignments give, with their places."""
    for node in ast.walk(tree):
        if isinstance(node, ast.arg):
            yield node.arg, node
        elif isinstance(node, ast.Name) and isinstance(node.ctx, (ast.Store, ast.Del)):
            yield node.id, node
        elif isinstance(node, (ast.FunctionDef, ast.ClassDef)):
            yield node.name, node
        elif isinstance(node, ast.ExceptHandler) and node.name:
            yield node.name, node


def called(node, names):
    return isinstance(node, ast.Call) and isinstance(node.func, ast.Name) and node.func.id in names


def is_set(node):
    return isinstance(node, (ast.Set, ast.SetComp)) or called(node, {"set", "frozenset"})


class TestLanguage(unittest.TestCase):
    def each(self, *kinds):
        for path, tree in TREES.items():
            for node in ast.walk(tree):
                if isinstance(node, kinds):
                    yield f"{path.name}:{getattr(node, 'lineno', 0)}", node

    def test_files(self):
        kept = [path for path in FOLDER.iterdir() if path.name != "__pycache__"]
        self.assertEqual(sorted(kept), FILES)
        self.assertLessEqual(len(FILES), 100)
        for path in FILES:
            self.assertRegex(path.name, r"^([a-z][a-z0-9_]*|__init__)\.py$")
            self.assertNotIn(path.stem, dir(builtins))

    def test_sizes(self):
        for path in FILES:
            text = path.read_text(encoding="ascii")
            self.assertTrue(text.endswith("\n"))
            self.assertLessEqual(len(text.splitlines()), 399, path)
            self.assertLessEqual(max(len(line) for line in text.splitlines()), 120, path)
            self.assertNotRegex(text, r"[^ -~\n]")
            self.assertNotRegex(text, r"[ ]\n")
            self.assertIsNone(BARRED_WORDS.search(text), path)
        for place, node in self.each(ast.FunctionDef):
            self.assertLessEqual(node.end_lineno - node.lineno + 1, 40, place)

    def test_docstrings(self):
        for path, tree in TREES.items():
            self.assertTrue(ast.get_docstring(tree), path)
            for node in tree.body:
                if isinstance(node, (ast.FunctionDef, ast.ClassDef)) and not node.name.startswith("_"):
                    self.assertTrue(ast.get_docstring(node), f"{path.name}: {node.name}")

    def test_imports(self):
        self.assertFalse([place for place, _ in self.each(ast.Import)])
        edges = {}
        for path, tree in TREES.items():
            edges[path.stem] = []
            body = tree.body[1:]
            while body and isinstance(body[0], ast.ImportFrom):
                self.check_import(edges[path.stem], body.pop(0))
            self.assertFalse([node for part in body for node in ast.walk(part) if isinstance(node, ast.ImportFrom)])
        ended = set()
        while len(ended) < len(edges):
            fresh = [name for name in edges if name not in ended and ended.issuperset(edges[name])]
            self.assertTrue(fresh, "files import from each other")
            ended.update(fresh)

    def check_import(self, edges, node):
        self.assertEqual(node.level, 0)
        self.assertTrue(all(alias.asname is None and alias.name != "*" for alias in node.names))
        if node.module in LIBRARY:
            self.assertLessEqual({alias.name for alias in node.names}, LIBRARY[node.module])
            return
        top, stem = node.module.split(".")
        self.assertEqual(top, "stronggens")
        edges.append(stem)
        defined = {name for name, _ in bound_names(ast.Module(TREES[FOLDER / f"{stem}.py"].body, []))}
        self.assertLessEqual({alias.name for alias in node.names}, defined)

    def test_unused_imports_and_names(self):
        for path, tree in TREES.items():
            used = {node.id for node in ast.walk(tree) if isinstance(node, ast.Name) and isinstance(node.ctx, ast.Load)}
            imported = [alias.name for node in tree.body if isinstance(node, ast.ImportFrom) for alias in node.names]
            self.assertLessEqual(set(imported), used, path)
            self.assertEqual(len(imported), len(set(imported)), path)
            for node in tree.body:
                if isinstance(node, ast.FunctionDef) and node.name.startswith("_"):
                    self.assertIn(node.name, used, path)

    def test_module_level(self):
        for path, tree in TREES.items():
            names = []
            for node in tree.body[1:]:
                if isinstance(node, ast.Assign):
                    self.assertTrue(len(node.targets) == 1 and isinstance(node.targets[0], ast.Name), path)
                    self.assertIsInstance(ast.literal_eval(node.value), (int, str, tuple))
                    names.append(node.targets[0].id)
                elif isinstance(node, ast.ImportFrom):
                    names.extend(alias.name for alias in node.names)
                else:
                    self.assertIsInstance(node, (ast.FunctionDef, ast.ClassDef), path)
                    names.append(node.name)
            self.assertEqual(len(names), len(set(names)), path)

    def test_statements(self):
        for place, node in self.each(ast.stmt):
            self.assertIsInstance(node, STATEMENTS, place)
            if isinstance(node, (ast.FunctionDef, ast.ClassDef)):
                self.assertEqual(node.decorator_list, [], place)
            if isinstance(node, ast.Expr):
                plain = isinstance(node.value, ast.Call) or isinstance(node.value, ast.Constant)
                self.assertTrue(plain, place)
        banned = (ast.Yield, ast.YieldFrom, ast.Await, ast.NamedExpr, ast.Div, ast.MatMult, ast.AnnAssign, ast.Lambda)
        for place, node in self.each(*banned):
            self.assertIsInstance(node, ast.Lambda, place)
        for place, node in self.each(ast.Constant):
            self.assertIsInstance(node.value, (int, str, type(None)), place)
        for place, node in self.each(ast.arg):
            self.assertIsNone(node.annotation, place)
        for place, node in self.each(ast.FunctionDef):
            self.assertIsNone(node.returns, place)

    def test_names(self):
        for path, tree in TREES.items():
            shared = {alias.name for node in tree.body if isinstance(node, ast.ImportFrom) for alias in node.names}
            shared |= {node.name for node in tree.body if isinstance(node, ast.ClassDef)}
            methods = {node for kind in tree.body if isinstance(kind, ast.ClassDef) for node in kind.body}
            for name, node in bound_names(tree):
                place = f"{path.name}:{node.lineno} {name}"
                if name == "__init__":
                    self.assertIn(node, methods, place)
                    continue
                self.assertRegex(name, r"^(_|_?[A-Za-z][A-Za-z0-9_]*)$", place)
                self.assertNotIn(name, BARRED, place)
                if node not in methods:
                    self.assertNotIn(name, dir(builtins), place)
                if not isinstance(node, ast.ClassDef):
                    self.assertNotIn(name, shared, place)
        for place, node in self.each(ast.Name):
            if isinstance(node.ctx, ast.Load):
                self.assertNotEqual(node.id, "_", place)
                if node.id in dir(builtins):
                    self.assertIn(node.id, BUILTINS, place)

    def test_attributes_and_methods(self):
        own, given = set(), set()
        for _, node in self.each(ast.ClassDef):
            own |= {part.name for part in node.body if isinstance(part, ast.FunctionDef)}
        for place, node in self.each(ast.Attribute):
            if isinstance(node.ctx, ast.Store):
                self.assertNotIn(node.attr, NO_ATTRIBUTES, place)
                given.add(node.attr)
        self.assertFalse(own & METHODS - {"__init__"})
        self.assertFalse(own & given)
        for path, tree in TREES.items():
            parents = parents_of(tree)
            for node in ast.walk(tree):
                if isinstance(node, ast.Attribute):
                    place = f"{path.name}:{node.lineno} {node.attr}"
                    is_call = isinstance(parents[node], ast.Call) and parents[node].func is node
                    self.assertNotIn(node.attr, BARRED, place)
                    self.assertIn(node.attr, METHODS | own if is_call else given, place)

    def test_errors(self):
        kinds = {node.name for node in TREES[FOLDER / "errors.py"].body if isinstance(node, ast.ClassDef)}
        for place, node in self.each(ast.Raise):
            self.assertTrue(called(node.exc, kinds), place)
            self.assertIsNone(node.cause, place)
        for place, node in self.each(ast.ExceptHandler):
            self.assertTrue(isinstance(node.type, ast.Name) and node.type.id in kinds, place)

    def test_is(self):
        for place, node in self.each(ast.Compare):
            for left, sign, right in zip([node.left, *node.comparators], node.ops, node.comparators):
                if isinstance(sign, (ast.Is, ast.IsNot)):
                    plain = isinstance(right, ast.Constant) and right.value in (None, True, False)
                    self.assertTrue(plain or called(left, {"type"}), place)
        for path, tree in TREES.items():
            parents = parents_of(tree)
            for node in ast.walk(tree):
                if called(node, {"type"}):
                    self.assertIsInstance(parents[node], ast.Compare, f"{path.name}:{node.lineno}")

    def test_iterated_at_once(self):
        for path, tree in TREES.items():
            parents = parents_of(tree)
            for node in ast.walk(tree):
                views = isinstance(node, ast.Call) and isinstance(node.func, ast.Attribute) and \
                    node.func.attr in ("items", "keys", "values")
                if called(node, AT_ONCE | {"permutations", "combinations"}) or views:
                    self.assertTrue(self.is_taken(parents[node], node), f"{path.name}:{node.lineno}")
                if isinstance(node, ast.GeneratorExp):
                    takers = {"list", "tuple", "sorted", "sum", "min", "max", "any", "all"}
                    self.assertTrue(called(parents[node], takers), f"{path.name}:{node.lineno}")

    def is_taken(self, parent, node):
        if isinstance(parent, (ast.For, ast.comprehension)):
            return parent.iter is node
        if isinstance(parent, ast.Compare):
            return called(node, {"range"}) and isinstance(parent.ops[0], (ast.In, ast.NotIn))
        return called(parent, TAKERS) or called(node, {"range"}) and called(parent, {"reversed", "permutations", "combinations", "len"})

    def test_sets(self):
        for path, tree in TREES.items():
            for function in [node for node in ast.walk(tree) if isinstance(node, ast.FunctionDef)]:
                stored = [node.targets[0].id for node in ast.walk(function)
                          if isinstance(node, ast.Assign) and is_set(node.value)]
                self.assertEqual(len(stored), len(set(stored)), path)
                parents = parents_of(function)
                for node in ast.walk(function):
                    if is_set(node):
                        fits = called(parents[node], {"sorted", "len"}) or isinstance(parents[node], (ast.Assign, ast.Compare))
                        self.assertTrue(fits, f"{path.name}:{node.lineno}")
                    if isinstance(node, ast.Name) and node.id in stored:
                        self.check_stored(parents, node, f"{path.name}:{node.lineno}")

    def check_stored(self, parents, node, place):
        parent = parents[node]
        if isinstance(parent, ast.Attribute):
            self.assertIn(parent.attr, ("add", "discard"), place)
        else:
            fits = isinstance(parent, (ast.Assign, ast.Compare)) or called(parent, {"sorted", "len"})
            self.assertTrue(fits, place)

    def test_stars(self):
        plain = (ast.Name, ast.Attribute, ast.Constant, ast.List, ast.Tuple)
        for place, node in self.each(ast.Call):
            stars = [arg.value for arg in node.args if isinstance(arg, ast.Starred)]
            stars += [word.value for word in node.keywords if word.arg is None]
            self.assertTrue(all(isinstance(value, plain) for value in stars), place)
        for place, node in self.each(ast.Dict):
            self.assertTrue(all(key is not None or isinstance(value, plain) for key, value in zip(node.keys, node.values)), place)

    def test_signs(self):
        for place, node in self.each(ast.Pow):
            self.fail(f"a power, in {place}")
        for place, node in self.each(ast.Constant):
            if isinstance(node.value, str):
                self.assertNotRegex(node.value, r"%|__", place)
        for path in FILES:
            self.assertNotRegex(path.read_text(), r"\\[^n\\t'\"]", path)


if __name__ == "__main__":
    unittest.main()
