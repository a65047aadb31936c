"""Mechanical checks of LANGUAGE.md over the files of the package."""

import ast
import builtins
import pathlib
import unittest

PACKAGE = pathlib.Path(__file__).resolve().parent.parent / "halfpicked"
BUILTINS = set("""
    len range enumerate zip min max sum abs sorted reversed int str bool bytes list tuple dict set frozenset
    isinstance ord repr any all divmod iter next map super property Exception ValueError TypeError KeyError
    IndexError LookupError ZeroDivisionError ArithmeticError OverflowError RuntimeError NotImplementedError
    NotImplemented
""".split())
LIBRARY = {
    "heapq": {"heappush", "heappop", "heapify", "heapreplace", "heappushpop"},
    "math": {"gcd", "lcm", "isqrt", "comb", "perm", "factorial"},
    "itertools": {"product", "combinations", "permutations"},
}
# Web has `__eq__`, so generator expressions give way to lists everywhere (L7).
FORBIDDEN = set("""
    register mro elements open input law version_info with_traceback add_note type typing enum Enum Flag Generic
    Protocol ABC eval exec exit getattr setattr hasattr delattr globals locals vars dir id
""".split())
BARRED = (ast.GeneratorExp, ast.Global, ast.AsyncFunctionDef, ast.Await, ast.AsyncFor, ast.AsyncWith, ast.Div)


class Rules(unittest.TestCase):

    def setUp(self):
        self.texts = {path: path.read_text("ascii") for path in sorted(PACKAGE.rglob("*.py"))}
        self.trees = {path: ast.parse(text) for path, text in self.texts.items()}

    def nodes(self):
        for path, tree in self.trees.items():
            for node in ast.walk(tree):
                yield f"{path.name}:{getattr(node, 'lineno', 0)}", node

    def test_only_python_files(self):
        others = [p for p in PACKAGE.rglob("*") if p.is_file() and p.suffix != ".py" and "__pycache__" not in p.parts]
        self.assertEqual(others, [])

    def test_sizes_and_characters(self):
        for path, text in self.texts.items():
            lines = text.split("\n")
            self.assertLessEqual(len(lines), 400, path.name)
            for number, line in enumerate(lines, 1):
                self.assertLessEqual(len(line), 120, f"{path.name}:{number}")
                self.assertTrue(all(" " <= sign <= "~" for sign in line), f"{path.name}:{number}")

    def test_functions_are_short(self):
        for where, node in self.nodes():
            if isinstance(node, ast.FunctionDef):
                self.assertLessEqual(node.end_lineno - node.lineno + 1, 40, where)

    def test_imports(self):
        for where, node in self.nodes():
            self.assertNotIsInstance(node, ast.Import, where)
            if isinstance(node, ast.ImportFrom):
                self.assertEqual(node.level, 0, where)
                names = {alias.name for alias in node.names}
                self.assertNotIn("*", names, where)
                if node.module in LIBRARY:
                    self.assertLessEqual(names, LIBRARY[node.module], where)
                else:
                    self.assertTrue(node.module.startswith("halfpicked."), where)

    def test_barred_parts(self):
        for where, node in self.nodes():
            self.assertNotIsInstance(node, BARRED, where)
            if isinstance(node, ast.Constant):
                self.assertNotIsInstance(node.value, (float, complex), where)
                self.assertFalse(isinstance(node.value, str) and "%" in node.value, where)
            if isinstance(node, ast.ExceptHandler):
                self.assertIsNotNone(node.type, where)

    def test_builtins(self):
        for where, node in self.nodes():
            if isinstance(node, ast.Name) and node.id in vars(builtins):
                self.assertIn(node.id, BUILTINS, where)
                self.assertIsInstance(node.ctx, ast.Load, where)
            if isinstance(node, ast.arg):
                self.assertNotIn(node.arg, vars(builtins), where)

    def test_names_of_imports_and_classes(self):
        for path, tree in self.trees.items():
            nodes = list(ast.walk(tree))
            taken = {alias.name for node in nodes if isinstance(node, ast.ImportFrom) for alias in node.names}
            taken |= {node.name for node in nodes if isinstance(node, ast.ClassDef)}
            stored = {node.id for node in nodes if isinstance(node, ast.Name) and isinstance(node.ctx, ast.Store)}
            stored |= {node.arg for node in nodes if isinstance(node, ast.arg)}
            self.assertEqual(taken & stored, set(), path.name)

    def test_generators(self):
        functions = [node for _, node in self.nodes() if isinstance(node, ast.FunctionDef)]
        names = [node.name for node in functions]
        for node in functions:
            if any(isinstance(part, (ast.Yield, ast.YieldFrom)) for part in ast.walk(node)):
                self.assertEqual(names.count(node.name), 1, node.name)

    def classes(self):
        return [node for _, node in self.nodes() if isinstance(node, ast.ClassDef)]

    def stored_attributes(self, tree):
        """The attributes that are assigned below this node."""
        return {n.attr for n in ast.walk(tree) if isinstance(n, ast.Attribute) and isinstance(n.ctx, ast.Store)}

    def test_forbidden_names(self):
        for where, node in self.nodes():
            for field in ("id", "attr", "arg", "name"):
                self.assertNotIn(getattr(node, field, None), FORBIDDEN, where)

    def test_methods_and_attributes(self):
        properties = set()
        for owner in self.classes():
            methods = {node.name: node for node in owner.body if isinstance(node, ast.FunctionDef)}
            self.assertEqual(set(methods) & self.stored_attributes(owner), set(), owner.name)
            if "__getitem__" in methods:
                self.assertIsInstance(methods["__iter__"].body[0], ast.Raise)
                self.assertNotIn("__len__", methods)
            properties |= {name for name, node in methods.items() if node.decorator_list}
        for path, tree in self.trees.items():
            self.assertEqual(properties & self.stored_attributes(tree), set(), path.name)

    def test_ends_of_blocks(self):
        """An `__exit__` only assigns attributes to attributes."""
        ends = [node for _, node in self.nodes() if isinstance(node, ast.FunctionDef) and node.name == "__exit__"]
        self.assertEqual(len(ends), 1)
        for row in ends[0].body:
            self.assertIsInstance(row, ast.Assign)
            self.assertIsInstance(row.value, ast.Attribute)

    def test_tables_are_not_passed_on(self):
        """A dict or a list at module level is only asked `in` and by an index, or read by a loop."""
        for path, tree in self.trees.items():
            tables = {
                node.targets[0].id for node in tree.body
                if isinstance(node, ast.Assign) and isinstance(node.value, (ast.Dict, ast.List))
            }
            fine = set()
            for node in ast.walk(tree):
                if isinstance(node, ast.Compare) and isinstance(node.ops[-1], (ast.In, ast.NotIn)):
                    fine.add(node.comparators[-1])
                if isinstance(node, ast.Subscript) and isinstance(node.ctx, ast.Load):
                    fine.add(node.value)
            for node in ast.walk(tree):
                if isinstance(node, ast.Name) and isinstance(node.ctx, ast.Load) and node.id in tables:
                    self.assertIn(node, fine, f"{path.name}:{node.lineno}")

    def test_no_circles_of_imports(self):
        found = {
            f"halfpicked.{path.stem}": {node.module for node in ast.walk(tree) if isinstance(node, ast.ImportFrom)}
            for path, tree in self.trees.items()
        }
        while found:
            free = [name for name, needs in found.items() if not needs & set(found)]
            self.assertTrue(free, found)
            for name in free:
                del found[name]


if __name__ == "__main__":
    unittest.main()
