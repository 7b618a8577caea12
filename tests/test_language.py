"""The form of the package's files: the rules that can be seen in them one by one."""

import ast
import builtins
import re
import unittest
from pathlib import Path

ROOT = Path(__file__).parent.parent
PACKAGE = ROOT / "mostspecial"
FILES = sorted(PACKAGE.glob("*.py"))
BUILTINS = set("""len range enumerate zip min max sum abs sorted reversed int str bool bytes list tuple dict set isinstance ord repr
any all divmod map iter next ValueError RuntimeError property""".split())
METHODS = set("""append clear copy count endswith extend find get index insert isalnum isalpha isdigit islower isspace isupper items join
keys ljust lower lstrip partition pop remove replace reverse rfind rjust rpartition rsplit rstrip setdefault split splitlines startswith
strip update upper values zfill bit_length add discard""".split())
BARRED = set("""mro elements open input law version_info with_traceback add_note register attrgetter breakpoint builtins compile copyright
credits delattr dir eval exec exit gc getattr globals hasattr help id importlib license locals methodcaller os quit setattr super type vars
sys typing enum Enum Generic Protocol ABC namedtuple print""".split())
INTERFACE = {
    "terms": "is_word is_type_name is_variable Names is_term is_closed is_pattern is_use variables",
    "termtexts": "write_term write_terms read_term read_terms", "matches": "matching filled more_special alike renamed",
    "meets": "meet meet_all meet_forms", "covers": "outside cover is_cover", "tables": "Table is_why_one",
    "texts": "read_unit write_unit", "programs": "Program faults view prints_in", "plain": "plain", "early": "constants",
    "instances": "asked roots instances", "library": "Library looked", "apart": "apart",
    "sights": "looks measure sight sights term_of single", "steps": "sort_of is_sort outcomes asks", "table": "sorts met road",
    "rows": "bad least_names dead chooser needed", "rings": "endless no_value", "well": "some_well", "books": "counts book unlike",
    "papers": "is_paper", "verdict": "verdict", "core": "made", "link": "link is_linked run", "edges": "post solves states counters",
    "drawn": "draw",
}
# The interface names this argument as it names a function of the file.
SAME_NAMES = [("instances", "instances", "roots"), ("sights", "term_of", "sight"), ("sights", "single", "sight")]
METHODS_OF = {"Names": ["count_of"], "Table": ["__len__", "takers", "choice", "two_choices", "why_one", "further", "never"]}
STATEMENTS = (ast.Assign, ast.AugAssign, ast.If, ast.While, ast.For, ast.Return, ast.Break, ast.Continue, ast.Pass, ast.Raise, ast.Delete,
              ast.Expr, ast.FunctionDef, ast.ClassDef, ast.ImportFrom)
# What is iterated at once, by a call, and the builtins that may iterate it or a generator expression.
AT_ONCE = ("zip", "enumerate", "range", "reversed")
VIEWS = ("items", "keys", "values")
TAKERS = ("list", "tuple", "dict", "sorted", "sum", "min", "max", "any", "all")


def parents(tree):
    """The node around each node of a tree."""
    return {inner: node for node in ast.walk(tree) for inner in ast.iter_child_nodes(node)}


def called(node):
    """The name that a node calls, None if it calls none."""
    return node.func.id if isinstance(node, ast.Call) and isinstance(node.func, ast.Name) else None


def is_plain(node):
    """Whether a node is a name, an attribute off a name, a literal, or a list or tuple of these: what a call may have behind a star."""
    if isinstance(node, (ast.List, ast.Tuple)):
        return all(is_plain(part) for part in node.elts)
    return isinstance(node, (ast.Name, ast.Constant)) or isinstance(node, ast.Attribute) and isinstance(node.value, ast.Name)


def wrong_stars(tree):
    """The lines at which a star stands where none may stand, though Python takes it."""
    found = []
    for node in ast.walk(tree):
        if isinstance(node, ast.Subscript):
            inner = list(ast.walk(node.slice))
            stars = [part for part in inner if isinstance(part, ast.Starred)]
            stars.extend(part for part in inner if isinstance(part, ast.Dict) and None in part.keys)
            found.extend(part.lineno for part in stars)
        elif isinstance(node, ast.Set):
            found.extend(part.lineno for part in node.elts if isinstance(part, ast.Starred))
        elif isinstance(node, ast.Starred) and isinstance(node.value, ast.GeneratorExp):
            found.append(node.lineno)
        elif isinstance(node, ast.Call):
            stars = [part.value for part in node.args if isinstance(part, ast.Starred)]
            stars.extend(part.value for part in node.keywords if part.arg is None)
            builtin = hasattr(builtins, called(node) or "") and called(node) not in ("min", "max", "zip")
            found.extend(star.lineno for star in stars if builtin or not is_plain(star))
    return found


def targets(node):
    """The names that a node assigns."""
    found = [part.id for part in ast.walk(node) if isinstance(part, ast.Name) and isinstance(part.ctx, ast.Store)]
    found.extend(part.arg for part in ast.walk(node) if isinstance(part, ast.arg))
    return found


class TestLanguage(unittest.TestCase):
    def setUp(self):
        self.trees = {file.stem: ast.parse(file.read_text()) for file in FILES}

    def test_folder(self):
        self.assertEqual([], [path.name for path in PACKAGE.iterdir() if path.suffix != ".py" and path.name != "__pycache__"])
        self.assertIn("__init__", self.trees)
        for name in self.trees:
            self.assertRegex(name, "^[a-z_]+$")
            self.assertFalse(hasattr(builtins, name) and not name.startswith("__"))

    def test_signs_and_lengths(self):
        for file in FILES:
            text = file.read_text()
            rows = text.split("\n")
            self.assertLessEqual(len(rows) - 1, 399, file.name)
            self.assertTrue(text.endswith("\n") and not text.endswith("\n\n"), file.name)
            for number, row in enumerate(rows, start=1):
                self.assertLessEqual(len(row), 120, (file.name, number))
                self.assertTrue(all(" " <= sign <= "~" for sign in row), (file.name, number))
                self.assertEqual(row.rstrip(), row, (file.name, number))

    def test_functions(self):
        for name, tree in self.trees.items():
            for node in ast.walk(tree):
                if isinstance(node, ast.FunctionDef):
                    self.assertLessEqual(node.end_lineno - node.lineno + 1, 40, (name, node.name))
                    self.assertIn([ast.unparse(part) for part in node.decorator_list], ([], ["property"]))
                    self.assertIsNone(node.returns)
                    if node.name not in ("__init__", "__len__"):
                        self.assertIsNotNone(ast.get_docstring(node), (name, node.name))
                self.assertNotIsInstance(node, (ast.Global, ast.AsyncFunctionDef, ast.Lambda, ast.Yield, ast.YieldFrom, ast.NamedExpr, ast.Try))
                if isinstance(node, ast.stmt):
                    self.assertIsInstance(node, STATEMENTS, (name, node.lineno))
                if isinstance(node, ast.Compare) and any(isinstance(sign, (ast.Is, ast.IsNot)) for sign in node.ops):
                    self.assertTrue(isinstance(node.comparators[0], ast.Constant), (name, node.lineno))
                if isinstance(node, ast.BinOp):
                    self.assertNotIsInstance(node.op, (ast.Div, ast.Pow))

    def test_module_level(self):
        for name, tree in self.trees.items():
            bound = []
            for node in tree.body:
                if isinstance(node, ast.Expr):
                    self.assertIs(tree.body[0], node)
                elif isinstance(node, ast.Assign):
                    self.assertEqual(1, len(node.targets))
                    bound.append(node.targets[0].id)
                    ast.literal_eval(node.value)
                elif isinstance(node, ast.ImportFrom):
                    bound.extend(alias.name for alias in node.names)
                    self.assertTrue(all(alias.asname is None for alias in node.names))
                else:
                    self.assertIsInstance(node, (ast.FunctionDef, ast.ClassDef))
                    bound.append(node.name)
            self.assertEqual(len(bound), len(set(bound)), name)
            self.assertIsNotNone(ast.get_docstring(tree))

    def test_imports(self):
        needs = {}
        for name, tree in self.trees.items():
            needs[name] = []
            used = {node.id for node in ast.walk(tree) if isinstance(node, ast.Name)}
            for node in ast.walk(tree):
                if not isinstance(node, ast.ImportFrom):
                    self.assertNotIsInstance(node, ast.Import)
                    continue
                for alias in node.names:
                    self.assertIn(alias.name, used, (name, alias.name))
                if node.module in ("math", "heapq"):
                    continue
                self.assertEqual("mostspecial", node.module.split(".")[0])
                other = node.module.split(".")[1]
                needs[name].append(other)
                own = [part.name for part in self.trees[other].body if isinstance(part, (ast.FunctionDef, ast.ClassDef))]
                own += [part.targets[0].id for part in self.trees[other].body if isinstance(part, ast.Assign)]
                for alias in node.names:
                    self.assertIn(alias.name, own, (name, alias.name))
        done = []
        while len(done) < len(needs):
            more = [name for name in needs if name not in done and all(other in done for other in needs[name])]
            self.assertNotEqual([], more)
            done.extend(more)

    def test_names(self):
        for name, tree in self.trees.items():
            fixed = {alias.name for node in tree.body if isinstance(node, ast.ImportFrom) for alias in node.names}
            fixed |= {node.name for node in tree.body if isinstance(node, (ast.ClassDef, ast.FunctionDef))}
            for function in [node for node in ast.walk(tree) if isinstance(node, ast.FunctionDef)]:
                if not function.name.startswith("__"):
                    self.assertFalse(hasattr(builtins, function.name), (name, function.name))
                for target in targets(function):
                    self.assertRegex(target, "^([A-Za-z][A-Za-z0-9_]*|_)$")
                    if (name, function.name, target) not in SAME_NAMES:
                        self.assertNotIn(target, fixed, (name, function.name, target))
                    self.assertFalse(hasattr(builtins, target), (name, function.name, target))
                    self.assertNotIn(target, BARRED)
            for node in ast.walk(tree):
                if isinstance(node, ast.Name) and hasattr(builtins, node.id):
                    self.assertIn(node.id, BUILTINS, (name, node.lineno))
                if isinstance(node, ast.Attribute) and node.attr != "__init__":
                    self.assertFalse(node.attr.startswith("__"), (name, node.lineno))
                if isinstance(node, ast.FunctionDef) and node.name.startswith("_"):
                    self.assertIn(node.name, ["__init__", "__len__"])

    def test_methods(self):
        own, attributes = set(), set()
        for tree in self.trees.values():
            for node in ast.walk(tree):
                if isinstance(node, ast.ClassDef):
                    own |= {part.name for part in node.body if isinstance(part, ast.FunctionDef)}
                if isinstance(node, ast.Attribute) and isinstance(node.ctx, ast.Store):
                    attributes.add(node.attr)
        self.assertEqual(set(), own & attributes)
        self.assertEqual(set(), (own | attributes) & METHODS)
        for name, tree in self.trees.items():
            for node in ast.walk(tree):
                if isinstance(node, ast.Call) and isinstance(node.func, ast.Attribute):
                    self.assertIn(node.func.attr, own | METHODS, (name, node.lineno))
                    if node.func.attr in METHODS:
                        self.assertEqual([], node.keywords, (name, node.lineno))
                elif isinstance(node, ast.Attribute) and isinstance(node.ctx, ast.Load):
                    self.assertIn(node.attr, own | attributes | METHODS, (name, node.lineno))

    def test_strings_and_words(self):
        for name, tree in self.trees.items():
            docs = [ast.get_docstring(node, clean=False) for node in ast.walk(tree)
                    if isinstance(node, (ast.Module, ast.ClassDef, ast.FunctionDef))]
            for node in ast.walk(tree):
                if isinstance(node, ast.Constant) and isinstance(node.value, str) and node.value not in docs:
                    self.assertNotIn("%", node.value)
                    self.assertFalse(node.value.endswith(("._", ".__")))
                    self.assertEqual(node.lineno, node.end_lineno)
            for word in ["dataclass", "overload", "contextmanager", "_wall", "_WallAttr"]:
                self.assertNotIn(word, (PACKAGE / f"{name}.py").read_text())

    def test_sets_and_iteration(self):
        for name, tree in self.trees.items():
            for node in ast.walk(tree):
                if isinstance(node, (ast.For, ast.comprehension)):
                    self.assertNotIsInstance(node.iter, (ast.Set, ast.SetComp))
                if isinstance(node, ast.Call) and isinstance(node.func, ast.Attribute) and node.func.attr in ("extend", "update"):
                    self.assertNotIsInstance(node.args[0], ast.GeneratorExp, (name, node.lineno))

    def test_stars(self):
        for name, tree in self.trees.items():
            self.assertEqual([], wrong_stars(tree), name)

    def test_wrong_stars_are_found(self):
        for text in ["d[*a]", "d[(1, *a)] = 2", "d[1, *a]", "del d[(*a, 1)]", "d[f([*a])]", "d[0, (1, (*a, 2))]", "d[f(*a)]", "d[f({**a})]",
                     "e[d[*a]]", "d[1:f([*a])]", "{*a}", "{1, *a}", "[*(x for x in a)]", "f(*[g(a)])", "f(*g(a))", "f(**g(a))", "list(*a)"]:
            self.assertNotEqual([], wrong_stars(ast.parse(text)), text)
        for text in ["[*a, 1]", "(*a, *b)", "{**a, 1: 2}", "f(*a)", "f(*[a.b, 1])", "f(**a)", "max(*a)", "d[f(a, b)] = (1, *a)", "a, *b = d[0]", "[*d[0]]"]:
            self.assertEqual([], wrong_stars(ast.parse(text)), text)

    def test_iterated_at_once(self):
        for name, tree in self.trees.items():
            around = parents(tree)
            for node in ast.walk(tree):
                view = isinstance(node, ast.Call) and isinstance(node.func, ast.Attribute) and node.func.attr in VIEWS
                if view or called(node) in AT_ONCE:
                    outer = around[node]
                    loop = isinstance(outer, (ast.For, ast.comprehension)) and outer.iter is node
                    self.assertTrue(loop or called(outer) in (*TAKERS, "enumerate", "zip"), (name, node.lineno))
                if isinstance(node, ast.GeneratorExp):
                    self.assertIn(called(around[node]), TAKERS, (name, node.lineno))
                    self.assertEqual(([node], []), (around[node].args, around[node].keywords), (name, node.lineno))

    def test_sets(self):
        for name, tree in self.trees.items():
            around = parents(tree)
            for node in ast.walk(tree):
                if isinstance(node, (ast.Set, ast.SetComp)) or called(node) in ("set", "frozenset"):
                    outer = around[node]
                    kept = isinstance(outer, ast.Assign) and isinstance(outer.targets[0], ast.Name)
                    self.assertTrue(kept or called(outer) in ("sorted", "len"), (name, node.lineno))
                    self.assertNotEqual("frozenset", called(node))
                    if called(node) == "set" and node.args:
                        self.assertNotIsInstance(node.args[0], (ast.GeneratorExp, ast.Set, ast.SetComp), (name, node.lineno))

    def test_interface(self):
        for name, words in INTERFACE.items():
            own = {node.name: node for node in self.trees[name].body if isinstance(node, (ast.FunctionDef, ast.ClassDef))}
            for word in words.split():
                self.assertIn(word, own)
                if word in METHODS_OF:
                    methods = [part.name for part in own[word].body if isinstance(part, ast.FunctionDef)]
                    for method in METHODS_OF[word]:
                        self.assertIn(method, methods)

    def test_tests_stand_beside_the_package(self):
        self.assertEqual([], [file.name for file in FILES if re.match("test", file.name)])


if __name__ == "__main__":
    unittest.main()
