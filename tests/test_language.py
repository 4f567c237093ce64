"""The rules of the language that a look at each file can tell: sizes, signs, statements and names."""

import ast
import builtins
import pathlib
import unittest

PACKAGE = pathlib.Path(__file__).resolve().parent.parent / "seenchoices"

STATEMENTS = (
    ast.Assign, ast.AugAssign, ast.AnnAssign, ast.If, ast.While, ast.For, ast.Return, ast.Break, ast.Continue,
    ast.Pass, ast.Raise, ast.Assert, ast.Delete, ast.Nonlocal, ast.Match, ast.With, ast.Try, ast.Expr,
    ast.FunctionDef, ast.ClassDef, ast.ImportFrom,
)
BUILTINS = (
    "len range enumerate zip min max sum abs sorted reversed int str bool bytes list tuple dict set frozenset "
    "isinstance ord repr any all divmod pow getattr hasattr setattr iter next super property map "
    "ValueError KeyError LookupError NotImplemented"
).split()
METHODS = (
    "append clear copy count endswith extend find get index insert isalnum isalpha isdigit islower isspace isupper "
    "items join keys ljust lower lstrip partition pop remove replace reverse rfind rjust rpartition rsplit rstrip "
    "setdefault split splitlines startswith strip update upper values zfill bit_length isdecimal isascii __init__ add discard"
).split()
LIBRARY = {
    "heapq": ["heapify", "heappop", "heappush", "heappushpop", "heapreplace"],
    "math": ["comb", "factorial", "gcd", "isqrt", "lcm", "perm"],
    "itertools": ["accumulate", "chain", "combinations", "islice", "pairwise", "permutations", "product",
                  "zip_longest"],
    "collections": ["defaultdict"],
}
FOLDED = ["all", "any", "max", "min", "sorted", "sum"]
# What Python's own prompt and doctest bind is no builtin.
TAKEN = [name for name in vars(builtins) if name != "_"]
BARRED = (
    "register mro elements open input law version_info with_traceback add_note attrgetter breakpoint builtins compile "
    "copyright credits delattr dir eval exec exit gc globals help id importlib license locals methodcaller os quit "
    "type vars sys"
).split()
BARRED_ATTRIBUTES = (
    "items keys values pop update append clear extend insert remove reverse setdefault sort args encode decode hex "
    "fromhex format"
).split()


def files():
    return [path for path in sorted(PACKAGE.rglob("*")) if "__pycache__" not in path.parts]


def walked(kind):
    """Each node of a kind in the package, with a text that tells where it stands."""
    for path in files():
        for node in ast.walk(ast.parse(path.read_text())):
            if isinstance(node, kind):
                yield node, f"{path.name}:{getattr(node, 'lineno', 0)}"


class FilesTest(unittest.TestCase):
    def test_one_folder_of_plain_files(self):
        for path in files():
            self.assertTrue(path.is_file() and path.suffix == ".py" and path.name == path.name.lower(), path)
        self.assertIn(PACKAGE / "__init__.py", files())

    def test_sizes_and_signs(self):
        for path in files():
            text = path.read_text(encoding="utf-8")
            lines = text.split("\n")
            self.assertLessEqual(len(lines) - 1, 399, path.name)
            for number, line in enumerate(lines, start=1):
                self.assertLessEqual(len(line), 120, f"{path.name}:{number}")
                self.assertTrue(all(" " <= sign <= "~" for sign in line), f"{path.name}:{number}")

    def test_functions_of_at_most_40_lines(self):
        for node, place in walked(ast.FunctionDef):
            self.assertLessEqual(node.end_lineno - node.lineno + 1, 40, place)


class StatementsTest(unittest.TestCase):
    def test_kinds_of_statements(self):
        for node, place in walked(ast.stmt):
            self.assertIsInstance(node, STATEMENTS, place)

    def test_module_level(self):
        allowed = (ast.ImportFrom, ast.FunctionDef, ast.ClassDef, ast.Assign, ast.Expr)
        for path in files():
            body = ast.parse(path.read_text()).body
            self.assertIsNotNone(ast.get_docstring(ast.Module(body, [])), path.name)
            for node in body:
                self.assertIsInstance(node, allowed, path.name)
            self.assertEqual(len([node for node in body if isinstance(node, ast.Expr)]), 1, path.name)

    def test_imports(self):
        for node, place in walked(ast.ImportFrom):
            self.assertEqual(node.level, 0, place)
            self.assertTrue(all(name.asname is None and name.name != "*" for name in node.names), place)
            if node.module in LIBRARY:
                self.assertTrue(all(name.name in LIBRARY[node.module] for name in node.names), place)
                continue
            path = PACKAGE.parent / (node.module.replace(".", "/") + ".py")
            self.assertIn(path, files(), place)
            defined = [item.name for item in ast.parse(path.read_text()).body if hasattr(item, "name")]
            self.assertTrue(all(name.name in defined or name.name.isupper() for name in node.names), place)

    def test_no_two_files_import_from_each_other(self):
        uses = {}
        for path in files():
            nodes = ast.walk(ast.parse(path.read_text()))
            modules = [node.module for node in nodes if isinstance(node, ast.ImportFrom)]
            uses[path.stem] = [name.split(".")[1] for name in modules if name.startswith("seenchoices.")]
        done = []
        while len(done) < len(uses):
            ready = [name for name in uses if name not in done and all(used in done for used in uses[name])]
            self.assertTrue(ready, f"a circle of imports among {sorted(set(uses) - set(done))}")
            done += ready

    def test_is_with_none_only(self):
        for node, place in walked(ast.Compare):
            if any(isinstance(sign, (ast.Is, ast.IsNot)) for sign in node.ops):
                self.assertTrue(all(isinstance(side, ast.Constant) for side in node.comparators), place)


class NamesTest(unittest.TestCase):
    def test_builtins(self):
        for node, place in walked(ast.Name):
            if node.id in TAKEN:
                self.assertIn(node.id, BUILTINS, place)
                self.assertIsInstance(node.ctx, ast.Load, place)

    def test_no_own_name_is_a_builtin(self):
        for node, place in walked((ast.FunctionDef, ast.ClassDef)):
            self.assertNotIn(node.name, TAKEN + BARRED, place)
        for node, place in walked(ast.arg):
            self.assertNotIn(node.arg, TAKEN + BARRED, place)
        for node, place in walked(ast.Name):
            self.assertNotIn(node.id, BARRED, place)

    def test_no_local_name_is_an_import_or_a_class_or_a_function(self):
        for path in files():
            tree = ast.parse(path.read_text())
            outer = [item.name for item in tree.body if hasattr(item, "name")]
            outer += [name.name for item in tree.body if isinstance(item, ast.ImportFrom) for name in item.names]
            self.assertEqual(len(set(outer)), len(outer), path.name)
            inner = [node.arg for node in ast.walk(tree) if isinstance(node, ast.arg)]
            inner += [node.id for node in ast.walk(tree)
                      if isinstance(node, ast.Name) and isinstance(node.ctx, ast.Store)]
            self.assertEqual([name for name in inner if name in outer], [], path.name)

    def test_attributes(self):
        for node, place in walked(ast.Attribute):
            if isinstance(node.ctx, ast.Store):
                self.assertNotIn(node.attr, BARRED_ATTRIBUTES, place)

    def test_generators_have_names_of_their_own(self):
        found = [node.name for node, _ in walked(ast.FunctionDef)]
        for node, place in walked(ast.FunctionDef):
            if any(isinstance(part, (ast.Yield, ast.YieldFrom)) for part in ast.walk(node)):
                self.assertEqual(found.count(node.name), 1, place)

    def test_methods(self):
        own = [node.name for node, _ in walked(ast.FunctionDef)]
        for node, place in walked(ast.Call):
            if isinstance(node.func, ast.Attribute):
                self.assertIn(node.func.attr, METHODS + own, place)


class ValuesTest(unittest.TestCase):
    def test_no_floats_and_no_true_division(self):
        for node, place in walked(ast.Constant):
            self.assertNotIsInstance(node.value, (float, complex), place)
        for node, place in walked((ast.BinOp, ast.AugAssign)):
            self.assertNotIsInstance(node.op, ast.Div, place)

    def test_strings(self):
        for node, place in walked(ast.Constant):
            if isinstance(node.value, str):
                self.assertNotIn("%", node.value, place)
                self.assertFalse(node.value.endswith(("._", ".__")), place)

    def test_lists_in_the_place_of_generator_expressions(self):
        for node, place in walked(ast.Call):
            if isinstance(node.func, ast.Name) and node.func.id in FOLDED:
                self.assertFalse(any(isinstance(item, ast.GeneratorExp) for item in node.args), place)


if __name__ == "__main__":
    unittest.main()
