"""The package's files keep to the subset of Python that the project is written in.

Only what is plainly seen is looked for here; what a rule's words say beyond
that is for the reader of the code.
"""

import ast
import builtins
import pathlib
import re
import unittest

PACKAGE = pathlib.Path(__file__).resolve().parent.parent / "likehouses"
LIBRARY = {
    "heapq": {"heappush", "heappop", "heapify", "heapreplace", "heappushpop"},
    "math": {"gcd", "lcm", "isqrt", "comb", "perm", "factorial"},
    "itertools": {"product", "combinations", "permutations", "chain", "accumulate", "pairwise", "islice",
                  "zip_longest"},
    "collections": {"defaultdict", "deque"},
}
CALLED = set("""len range enumerate zip min max sum abs sorted reversed int str bool list tuple dict set
    isinstance ord repr any all divmod pow map iter next getattr hasattr setattr type super property staticmethod
    classmethod print Exception ValueError TypeError KeyError IndexError LookupError ZeroDivisionError
    ArithmeticError OverflowError RuntimeError NotImplementedError AttributeError StopIteration
    NotImplemented""".split())
METHODS = set("""append clear copy count endswith extend find get index insert isalnum isalpha isdigit islower isspace
    isupper items join keys ljust lower lstrip partition pop remove replace reverse rfind rjust rpartition rsplit rstrip
    setdefault split splitlines startswith strip update upper values zfill bit_length add discard""".split())
WHOLE_LISTS = {"any", "all", "min", "max", "sum", "sorted"}
BARRED = (ast.AsyncFunctionDef, ast.AsyncFor, ast.AsyncWith, ast.Await, ast.Import)
BARRED_NAMES = re.compile(r"_(wall|pe_|dcw_|enum_|cm_|twin_re_|lay_|law_|stub_|sre|WallAttr)"
                          r"|_(cold|tuplegetter|outside|record|written_out|member_names)[0-9_]*\Z"
                          r"|(register|mro|elements|open|input|law|version_info|with_traceback|add_note|attrgetter|breakpoint"
                          r"|compile|delattr|dir|eval|exec|exit|gc|globals|help|id|importlib|license|locals|methodcaller|os|quit"
                          r"|vars|sys)\Z")
BARRED_WORDS = re.compile(r"\b(type|typing|enum|Enum|Generic|Protocol|ABC|namedtuple|NamedTuple|_wall|_WallAttr)\b"
                          r"|dataclass|overload|contextmanager")


def files():
    return sorted(PACKAGE.glob("**/*.py"))


def trees():
    return [(path.name, ast.parse(path.read_text(encoding="utf-8"))) for path in files()]


def docstrings(tree):
    """The nodes of all docstrings."""
    return {id(node.body[0].value) for node in ast.walk(tree)
            if isinstance(node, (ast.Module, ast.ClassDef, ast.FunctionDef)) and node.body
            and isinstance(node.body[0], ast.Expr) and isinstance(node.body[0].value, ast.Constant)}


def bound_names(tree):
    """Names of functions outside classes, of classes, variables, parameters, caught errors and imports."""
    methods = {id(part) for node in ast.walk(tree) if isinstance(node, ast.ClassDef) for part in node.body}
    for node in ast.walk(tree):
        if isinstance(node, ast.Name) and isinstance(node.ctx, ast.Store):
            yield node.id
        if isinstance(node, ast.arg):
            yield node.arg
        if isinstance(node, (ast.FunctionDef, ast.ClassDef)) and id(node) not in methods:
            yield node.name
        if isinstance(node, (ast.ExceptHandler, ast.MatchAs)) and node.name:
            yield node.name
        if isinstance(node, ast.alias):
            yield node.asname or node.name


def imports():
    """What files import from the package's own: (file, module, name), without likehouses and .py."""
    for name, tree in trees():
        for node in ast.walk(tree):
            if isinstance(node, ast.ImportFrom) and node.module.startswith("likehouses."):
                for one in node.names:
                    yield name[:-3], node.module.partition(".")[2], one.name


class Language(unittest.TestCase):

    def test_the_folder_holds_nothing_else(self):
        self.assertTrue((PACKAGE / "__init__.py").is_file())
        for path in PACKAGE.iterdir():
            if path.name != "__pycache__":
                self.assertRegex(path.name, r"\A[a-z0-9_]+\.py\Z")

    def test_sizes_and_signs(self):
        for path in files():
            text = path.read_text(encoding="utf-8")
            rows = text.splitlines()
            self.assertLessEqual(len(rows), 399, path)
            self.assertEqual([row for row in rows if len(row) > 120], [], path)
            self.assertRegex(text, r"\A[ -~\n]*\Z", path)

    def test_functions_have_at_most_forty_lines(self):
        for name, tree in trees():
            for node in ast.walk(tree):
                if isinstance(node, ast.FunctionDef):
                    self.assertLessEqual(node.end_lineno - node.lineno + 1, 40, (name, node.name))

    def test_imports(self):
        modules = {"likehouses." + path.stem for path in files()}
        for name, tree in trees():
            for node in ast.walk(tree):
                if isinstance(node, ast.ImportFrom):
                    self.assertEqual(node.level, 0, name)
                    self.assertTrue(all(one.asname is None and one.name != "*" for one in node.names), name)
                    if node.module in LIBRARY:
                        self.assertLessEqual({one.name for one in node.names}, LIBRARY[node.module], name)
                    else:
                        self.assertIn(node.module, modules, name)

    def test_nothing_barred_stands_there(self):
        for name, tree in trees():
            told = docstrings(tree)
            for node in ast.walk(tree):
                self.assertNotIsInstance(node, BARRED, name)
                self.assertNotIsInstance(getattr(node, "op", None), ast.Div, name)
                if isinstance(node, ast.Constant):
                    self.assertNotIsInstance(node.value, (float, complex), name)
                    if isinstance(node.value, str) and id(node) not in told:
                        self.assertNotIn("%", node.value, name)
                        self.assertNotRegex(node.value, BARRED_WORDS, name)

    def test_names(self):
        taken = set(dir(builtins))
        for name, tree in trees():
            bound = list(bound_names(tree))
            self.assertEqual([one for one in bound if one in taken], [], name)
            self.assertEqual([one for one in bound if not re.fullmatch(r"_?[A-Za-z][A-Za-z0-9_]*|_", one)], [], name)
            self.assertEqual([one for one in bound if BARRED_WORDS.search(one) or BARRED_NAMES.match(one)], [], name)

    def test_what_is_not_asked_for_is_not_read(self):
        for name, tree in trees():
            read = [node.id for node in ast.walk(tree) if isinstance(node, ast.Name) and isinstance(node.ctx, ast.Load)]
            self.assertNotIn("_", read, name)

    def test_no_other_builtin_is_used(self):
        for name, tree in trees():
            used = {node.id for node in ast.walk(tree) if isinstance(node, ast.Name)}
            self.assertEqual(sorted(used & set(dir(builtins)) - CALLED), [], name)

    def test_each_name_is_imported_from_the_file_that_defines_it(self):
        defined = {name[:-3]: {node.name if hasattr(node, "name") else node.targets[0].id for node in tree.body
                               if isinstance(node, (ast.FunctionDef, ast.ClassDef, ast.Assign))}
                   for name, tree in trees()}
        for name, module, word in imports():
            self.assertIn(word, defined[module], (name, module))

    def test_no_two_files_import_from_each_other(self):
        needs = {}
        for name, module, _ in imports():
            needs.setdefault(name, set()).add(module)
        while needs:
            free = [name for name in needs if not needs[name] & set(needs)]
            self.assertNotEqual(free, [], needs)
            for name in free:
                del needs[name]

    def test_methods_of_builtin_values(self):
        own = {node.name for _, tree in trees() for node in ast.walk(tree) if isinstance(node, ast.FunctionDef)}
        for name, tree in trees():
            for node in ast.walk(tree):
                if isinstance(node, ast.Call) and isinstance(node.func, ast.Attribute):
                    self.assertIn(node.func.attr, METHODS | own | {"__init__"}, name)

    def test_lists_for_generator_expressions(self):
        # Street has an __eq__ and a __len__ of its own, so L7 asks for lists here.
        for name, tree in trees():
            for node in ast.walk(tree):
                if isinstance(node, ast.Call) and isinstance(node.func, ast.Name) and node.func.id in WHOLE_LISTS:
                    self.assertFalse(any(isinstance(given, ast.GeneratorExp) for given in node.args), name)


if __name__ == "__main__":
    unittest.main()
