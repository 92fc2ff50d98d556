"""The rules of the Python subset that a walk over the code can see."""

import ast
import builtins
import pathlib
import re
import unittest

PACKAGE = pathlib.Path(__file__).resolve().parent.parent / "bandheld"
BUILTINS = (
    "len range enumerate zip min max sum abs sorted reversed int str bool list tuple dict set isinstance ord repr any "
    "all divmod iter next Exception ValueError LookupError RuntimeError TypeError KeyError NotImplemented super map "
    "property True False None"
).split()
METHODS = (
    "append clear copy count endswith extend find get index insert isalnum isalpha isdigit islower isspace isupper "
    "items join keys ljust lower lstrip partition pop remove replace reverse rfind rjust rpartition rsplit rstrip "
    "setdefault split splitlines startswith strip update upper values zfill bit_length isascii isdecimal"
).split()
LIBRARY = {"math": ["gcd", "lcm", "isqrt"], "heapq": ["heappush", "heappop"], "itertools": ["product", "combinations"]}
BARRED_NODES = (
    ast.GeneratorExp, ast.Global, ast.AsyncFunctionDef, ast.Await, ast.Import, ast.Div, ast.NamedExpr, ast.TryStar,
)
BARRED_WORDS = (
    "typing enum Enum Flag Generic Protocol ABC namedtuple NamedTuple TypedDict register mro elements open input law "
    "version_info eval exec vars dir globals locals id os quit exit help"
).split()
FILES = sorted(PACKAGE.rglob("*.py"))


def trees():
    return [(path, ast.parse(path.read_text())) for path in FILES]


def walk():
    return [(path, node) for path, tree in trees() for node in ast.walk(tree)]


class Rules(unittest.TestCase):
    def test_files(self):
        self.assertIn(PACKAGE / "__init__.py", FILES)
        for path in FILES:
            text = path.read_bytes().decode("ascii")
            self.assertTrue(all([character == "\n" or " " <= character <= "~" for character in text]), path)
            self.assertLessEqual(len(text.splitlines()), 399, path)
            self.assertLessEqual(max([len(line) for line in text.splitlines()] + [0]), 120, path)

    def test_functions(self):
        for path, node in walk():
            if isinstance(node, ast.FunctionDef):
                self.assertLessEqual(node.end_lineno - node.lineno + 1, 40, (path, node.name))
                self.assertEqual([item for item in node.decorator_list if ast.unparse(item) != "property"], [])

    def test_nodes(self):
        for path, node in walk():
            self.assertNotIsInstance(node, BARRED_NODES, (path, getattr(node, "lineno", 0)))
            if isinstance(node, ast.Constant):
                self.assertNotIsInstance(node.value, (float, complex), path)
                if isinstance(node.value, str):
                    self.assertNotIn("%", node.value, path)
            if isinstance(node, ast.Compare) and isinstance(node.ops[0], (ast.Is, ast.IsNot)):
                self.assertIsInstance(node.comparators[0], ast.Constant, (path, node.lineno))

    def test_imports(self):
        known = {path.stem for path in FILES}
        for path, node in walk():
            if isinstance(node, ast.ImportFrom):
                self.assertEqual(node.level, 0)
                self.assertTrue(all([name.asname is None for name in node.names]))
                if node.module in LIBRARY:
                    self.assertLessEqual({name.name for name in node.names}, set(LIBRARY[node.module]))
                else:
                    head, _, module = node.module.partition(".")
                    self.assertEqual(head, "bandheld", path)
                    self.assertIn(module, known)
                    made = {
                        item for part in ast.parse((PACKAGE / (module + ".py")).read_text()).body
                        for item in ([part.name] if hasattr(part, "name") else [
                            target.id for target in getattr(part, "targets", [])])
                    }
                    self.assertLessEqual({name.name for name in node.names}, made, path)

    def test_names(self):
        for path, tree in trees():
            used = {node.id for node in ast.walk(tree) if isinstance(node, ast.Name) and isinstance(node.ctx, ast.Load)}
            bound = {node.id for node in ast.walk(tree) if isinstance(node, ast.Name) and isinstance(node.ctx, ast.Store)}
            bound |= {node.arg for node in ast.walk(tree) if isinstance(node, ast.arg)}
            bound |= {node.name for node in ast.walk(tree) if isinstance(node, (ast.FunctionDef, ast.ClassDef))}
            bound |= {node.name for node in ast.walk(tree) if isinstance(node, ast.ExceptHandler)}
            imported = {
                name.name for node in ast.walk(tree) if isinstance(node, ast.ImportFrom) for name in node.names
            }
            self.assertLessEqual(used - bound - imported, set(BUILTINS), path)
            self.assertEqual(bound & imported, set(), path)
            self.assertEqual(imported - used, set(), path)
            self.assertEqual((bound | imported) & set(dir(builtins)), set(), path)

    def test_methods(self):
        own = {node.name for _, node in walk() if isinstance(node, ast.FunctionDef)}
        for path, node in walk():
            if isinstance(node, ast.Call) and isinstance(node.func, ast.Attribute):
                self.assertIn(node.func.attr, own | set(METHODS), (path, node.lineno))

    def test_words(self):
        for path in FILES:
            tree = ast.parse(path.read_text())
            names = {node.id for node in ast.walk(tree) if isinstance(node, ast.Name)}
            names |= {node.arg for node in ast.walk(tree) if isinstance(node, ast.arg)}
            names |= {node.attr for node in ast.walk(tree) if isinstance(node, ast.Attribute)}
            self.assertEqual(names & set(BARRED_WORDS), set(), path)
            self.assertIsNone(re.search(r"\btype\b|dataclass|overload|contextmanager|_wall", path.read_text()), path)

    def test_properties_are_assigned_nowhere(self):
        properties = {
            node.name for _, node in walk() if isinstance(node, ast.FunctionDef) and node.decorator_list
        }
        self.assertEqual(properties, {"held", "fullest", "house", "now", "calm_since"})
        for path, node in walk():
            if isinstance(node, ast.Attribute) and isinstance(node.ctx, ast.Store):
                self.assertNotIn(node.attr, properties | set(METHODS) - {"copy", "count", "index"}, (path, node.lineno))
                # Attributes are assigned through a local name alone.
                self.assertIsInstance(node.value, ast.Name, (path, node.lineno))

    def test_methods_and_attributes_of_one_class(self):
        for path, node in walk():
            if isinstance(node, ast.ClassDef):
                methods = [part.name for part in node.body if isinstance(part, ast.FunctionDef)]
                self.assertEqual(len(methods), len(set(methods)), (path, node.name))
                stored = {
                    part.attr for part in ast.walk(node)
                    if isinstance(part, ast.Attribute) and isinstance(part.ctx, ast.Store)
                }
                self.assertEqual(stored & set(methods), set(), (path, node.name))

    def test_stars_and_blocks(self):
        for path, node in walk():
            if isinstance(node, ast.Starred):
                self.assertIsInstance(node.value, ast.Name, (path, node.lineno))
            if isinstance(node, ast.Call):
                self.assertTrue(all([word.arg is not None for word in node.keywords]), (path, node.lineno))
            if isinstance(node, ast.With):
                self.assertIsInstance(node.items[0].context_expr, ast.Call)
            self.assertNotIsInstance(node, (ast.Match, ast.Nonlocal, ast.Lambda), path)

    def test_docstrings(self):
        for path, tree in trees():
            self.assertTrue(ast.get_docstring(tree), path)
            for node in ast.walk(tree):
                if isinstance(node, ast.ClassDef):
                    self.assertTrue(ast.get_docstring(node), (path, node.name))

    def test_imports_go_one_way(self):
        needs = {
            path.stem: {
                node.module.partition(".")[2] for node in ast.walk(tree)
                if isinstance(node, ast.ImportFrom) and node.module.startswith("bandheld.")
            }
            for path, tree in trees()
        }
        while needs:
            ready = [name for name in needs if not needs[name]]
            self.assertTrue(ready, needs)
            needs = {name: needs[name] - set(ready) for name in needs if name not in ready}


if __name__ == "__main__":
    unittest.main()
