"""The rules of ../shared/LANGUAGE.md that can be asked of the source by counting and looking."""

import ast
import builtins
import re
import unittest
from pathlib import Path

PACKAGE = Path(__file__).resolve().parent.parent / "paperrows"
FILES = sorted(PACKAGE.glob("*.py"))
PYTHONS_OWN = [name for name in vars(builtins) if not name.startswith("_")]

# What L2 lets a file import from outside of the package.
LIBRARY = {
    "__future__": ["annotations"],
    "heapq": ["heappush", "heappop", "heapify", "heapreplace", "heappushpop"],
    "math": ["gcd", "lcm", "isqrt", "comb", "perm", "factorial"],
    "itertools": ["product", "combinations", "permutations", "chain", "accumulate", "pairwise", "islice", "zip_longest"],
    "collections": ["defaultdict", "deque"],
}
# L8, without `chr` (L27) and without those of bytes, which are not to be used for the present (L7).
BUILTINS = """
    len range enumerate zip min max sum abs sorted reversed int str bool list tuple dict set isinstance ord repr any all
    divmod pow getattr hasattr setattr type iter next map super object property staticmethod classmethod Exception ValueError
    TypeError KeyError IndexError LookupError ZeroDivisionError ArithmeticError OverflowError RuntimeError
    NotImplementedError AttributeError StopIteration NotImplemented
""".split()
# L25.
METHODS = """
    append clear copy count endswith extend find get index insert isalnum isalpha isdigit islower isspace isupper items
    join keys ljust lower lstrip partition pop remove replace reverse rfind rjust rpartition rsplit rstrip setdefault
    split splitlines startswith strip update upper values zfill bit_length title capitalize swapcase casefold center
    expandtabs removeprefix removesuffix rindex isascii isdecimal isnumeric istitle isidentifier isprintable translate
    add discard format __init__
""".split()
# L2, L6 and L7.
BARRED_NODES = (ast.AsyncFunctionDef, ast.AsyncFor, ast.AsyncWith, ast.Await, ast.Import, ast.Div, ast.MatMult)
# L7: of a class with `__eq__` these take a list.
WANT_LISTS = ("any", "all", "min", "max", "sum", "sorted")


def each_file():
    for path in FILES:
        text = path.read_text(encoding="utf-8")
        yield path.stem, text, ast.parse(text)


def nodes_of(tree, *kinds):
    return [node for node in ast.walk(tree) if isinstance(node, kinds)]


def defined_names(stem):
    """All names that a file of the package gives at its outermost level, but for imports."""
    tree = ast.parse((PACKAGE / f"{stem}.py").read_text(encoding="utf-8"))
    names = [node.name for node in tree.body if isinstance(node, (ast.FunctionDef, ast.ClassDef))]
    return names + [node.targets[0].id for node in tree.body if isinstance(node, ast.Assign)]


def bound_names(tree):
    """All names that a file gives to something."""
    names = [node.id for node in nodes_of(tree, ast.Name) if isinstance(node.ctx, ast.Store)]
    names += [node.arg for node in nodes_of(tree, ast.arg)]
    return names + [node.name for node in nodes_of(tree, ast.FunctionDef, ast.ClassDef)]


class LanguageTest(unittest.TestCase):

    def test_files(self):
        """L1, L14."""
        others = [path.name for path in PACKAGE.iterdir() if path.name != "__pycache__" and path not in FILES]
        self.assertEqual(others, [])
        self.assertIn(PACKAGE / "__init__.py", FILES)
        for path in FILES:
            self.assertRegex(path.name, r"^[a-z0-9_]+\.py$")
            self.assertNotIn(path.stem, PYTHONS_OWN)

    def test_sizes_and_signs(self):
        """L10, L14."""
        for stem, text, tree in each_file():
            lines = text.split("\n")
            self.assertLessEqual(len(lines), 400)
            self.assertLessEqual(max([len(line) for line in lines]), 120)
            self.assertRegex(text, r"^[\n -~]*$")
            for node in nodes_of(tree, ast.FunctionDef):
                self.assertLessEqual(node.end_lineno - node.lineno + 1, 40, node.name)

    def test_imports(self):
        """L2, L16."""
        leads = {}
        for stem, _, tree in each_file():
            leads[stem] = []
            for node in nodes_of(tree, ast.ImportFrom):
                self.assertIn(node, tree.body)
                self.assertEqual(node.level, 0)
                for alias in node.names:
                    self.assertIsNone(alias.asname)
                if node.module in LIBRARY:
                    self.assertLessEqual({alias.name for alias in node.names}, set(LIBRARY[node.module]))
                    continue
                package, _, other = node.module.partition(".")
                self.assertEqual(package, "paperrows")
                leads[stem].append(other)
                self.assertLessEqual({alias.name for alias in node.names}, set(defined_names(other)))
        for stem in leads:
            self.assertNotIn(stem, self.reached(stem, leads))

    def reached(self, stem, leads):
        told, ahead = [], list(leads[stem])
        while ahead:
            other = ahead.pop()
            if other not in told:
                told.append(other)
                ahead += leads[other]
        return told

    def test_module_level(self):
        """L3."""
        for stem, _, tree in each_file():
            for at, node in enumerate(tree.body):
                if isinstance(node, ast.Expr):
                    self.assertTrue(at == 0 and isinstance(node.value.value, str))
                elif isinstance(node, ast.Assign):
                    self.assertEqual([type(target) for target in node.targets], [ast.Name])
                    self.assertEqual(nodes_of(node, ast.Call, ast.ListComp, ast.SetComp, ast.DictComp, ast.Lambda), [])
                else:
                    self.assertIsInstance(node, (ast.ImportFrom, ast.FunctionDef, ast.ClassDef))

    def test_expressions(self):
        """L6, L7, L27."""
        for stem, text, tree in each_file():
            self.assertEqual(nodes_of(tree, *BARRED_NODES), [])
            for node in nodes_of(tree, ast.Constant):
                self.assertNotIsInstance(node.value, (float, complex, bytes))
            for node in nodes_of(tree, ast.Call):
                if isinstance(node.func, ast.Name) and node.func.id in WANT_LISTS:
                    self.assertEqual([part for part in node.args if isinstance(part, ast.GeneratorExp)], [])
            self.assertEqual([sign for sign in re.findall(r"\\.", text) if sign[1] not in "nt\\\"'"], [])
            docs = [node.body[0].value for node in nodes_of(tree, ast.Module, ast.FunctionDef, ast.ClassDef)
                    if node.body and isinstance(node.body[0], ast.Expr)]
            texts = [node.value for node in nodes_of(tree, ast.Constant) if node not in docs]
            self.assertEqual([value for value in texts if isinstance(value, str) and "\x25" in value], [])

    def test_names(self):
        """L8, L12, L15, L17."""
        for stem, text, tree in each_file():
            bound = bound_names(tree)
            for name in [node.name for node in nodes_of(tree, ast.ClassDef)]:
                self.assertEqual(bound.count(name), 1, name)
            for name in [alias.name for node in nodes_of(tree, ast.ImportFrom) for alias in node.names]:
                self.assertEqual(bound.count(name), 0, name)
            for name in bound:
                self.assertRegex(name, r"^(_|_?[A-Za-z][A-Za-z0-9_]*|__[a-z]+__)$")
                self.assertNotIn(name, PYTHONS_OWN, stem)
            for node in nodes_of(tree, ast.Name):
                if isinstance(node.ctx, ast.Load) and node.id in PYTHONS_OWN:
                    self.assertIn(node.id, BUILTINS, stem)
            self.assertNotRegex(text, r"_wall|_WallAttr")
            self.assertEqual(set(bound) & {"mro", "elements", "law", "register", "sys", "os"}, set())

    def test_methods(self):
        """L25."""
        own = []
        for stem, _, tree in each_file():
            own += [node.name for outer in nodes_of(tree, ast.ClassDef) for node in nodes_of(outer, ast.FunctionDef)]
        for stem, _, tree in each_file():
            for node in nodes_of(tree, ast.Call):
                if isinstance(node.func, ast.Attribute):
                    self.assertIn(node.func.attr, METHODS + own)

    def test_classes(self):
        """L4, L5, L28."""
        for stem, _, tree in each_file():
            for node in nodes_of(tree, ast.ClassDef):
                self.assertEqual(node.decorator_list, [])
            for node in nodes_of(tree, ast.FunctionDef):
                if node.name == "__init__":
                    self.assertEqual(nodes_of(node, ast.Return), [])


if __name__ == "__main__":
    unittest.main()
