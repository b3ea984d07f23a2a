"""The package as a whole: its interface, and the rules of the language that can be seen in its files."""

import ast
import builtins
import importlib
import inspect
import unittest
from pathlib import Path

PACKAGE = Path(__file__).resolve().parent.parent / "samepictures"

INTERFACE = {
    "drawings": {
        "is_shape": ["value"], "is_layer": ["value"], "is_drawing": ["value"], "count_points": ["drawing"],
    },
    "texts": {"format_drawing": ["drawing"], "parse_drawing": ["text"]},
    "seeing": {"painted": ["drawing", "point"]},
    "forms": {
        "seen": ["drawing", "point"], "form": ["drawing"], "same": ["drawing", "other"], "is_blank": ["drawing"],
        "parting": ["drawing", "other"],
    },
    "regions": {
        "region": ["shape"], "is_region": ["value"], "united": ["one", "other"], "common": ["one", "other"],
        "without": ["one", "other"], "either": ["one", "other"], "is_within": ["one", "other"], "area": ["some"],
        "box": ["some"], "parts": ["some"], "count_holes": ["some"],
    },
    "changes": {
        "values": ["drawing"], "where": ["drawing", "value"], "covered": ["drawing"], "areas": ["drawing"],
        "changed": ["drawing", "other"], "changed_area": ["drawing", "other"], "changed_box": ["drawing", "other"],
    },
    "layers": {
        "needless": ["drawing"], "thinned": ["drawing"], "exchangeable": ["drawing"], "sequences": ["drawing"],
        "can_dissolve": ["drawing", "index"], "is_clip_needless": ["drawing", "index"],
    },
    "plans": {"plan": ["drawing"], "is_plan": ["value"], "plan_form": ["some"], "count_corners": ["some"]},
    "moves": {
        "turned_form": ["drawing", "turn"], "moves": ["drawing", "other"], "enlargement": ["drawing", "other"],
    },
    "measures": {"mean": ["drawing", "box"], "along": ["drawing", "level"]},
}

DESK = {
    "__init__": ["self", "drawing"], "put": ["self", "index", "layer"], "take": ["self", "index"],
    "exchange": ["self", "index"], "undo": ["self"], "redo": ["self"], "drawing": ["self"], "__len__": ["self"],
    "__eq__": ["self", "other"],
}

LIBRARY = {
    "heapq": {"heappush", "heappop", "heapify", "heapreplace", "heappushpop"},
    "math": {"gcd", "lcm", "isqrt", "comb", "perm", "factorial"},
    "itertools": {
        "product", "combinations", "permutations", "chain", "accumulate", "pairwise", "islice", "zip_longest",
    },
    "collections": {"defaultdict", "deque"},
}

BUILTINS = set("""
    len range enumerate zip min max sum abs sorted reversed int str bool bytes list tuple dict set frozenset isinstance
    ord repr any all divmod map iter next type super property staticmethod classmethod ValueError TypeError KeyError
    IndexError LookupError ZeroDivisionError RuntimeError NotImplementedError StopIteration NotImplemented object
""".split())

METHODS = set("""
    append clear copy count endswith extend find get index insert isalnum isalpha isdigit islower isspace isupper items
    join keys ljust lower lstrip partition pop remove replace reverse rfind rjust rpartition rsplit rstrip setdefault
    split splitlines startswith strip update upper values zfill bit_length removeprefix removesuffix isascii isdecimal
    sort add discard popleft appendleft
""".split())

BARRED = set("""
    register mro elements open input law version_info with_traceback add_note attrgetter breakpoint builtins compile
    copyright credits delattr dir eval exec exit gc globals help id importlib license locals methodcaller os quit vars
    sys typing enum dataclass namedtuple
""".split())

SPECIAL = {"__init__", "__eq__", "__len__"}

NOT_MEMBERS = set("""
    items keys values pop update append clear extend insert remove reverse setdefault sort args encode decode hex fromhex
    format format_map mro as_integer_ratio bit_count conjugate from_bytes is_integer to_bytes
""".split())

NODES_NOT_ALLOWED = (
    ast.Div, ast.AsyncFunctionDef, ast.Global, ast.Import, ast.Await, ast.MatMult, ast.AnnAssign, ast.Try,
)


def read_files():
    """Return the pairs of a file of the package and its text."""
    return [(path, path.read_text(encoding="utf-8")) for path in sorted(PACKAGE.glob("*.py"))]


def names_bound(tree):
    """Return the names that are bound anywhere, as pairs of a name and a line."""
    found = []
    for node in ast.walk(tree):
        if isinstance(node, (ast.FunctionDef, ast.ClassDef)):
            found.append((node.name, node.lineno))
        elif isinstance(node, ast.arg):
            found.append((node.arg, node.lineno))
        elif isinstance(node, ast.Name) and isinstance(node.ctx, ast.Store):
            found.append((node.id, node.lineno))
    return found


def is_set(node):
    """Return whether the expression is plainly a set."""
    called = getattr(getattr(node, "func", None), "id", "")
    return isinstance(node, (ast.Set, ast.SetComp)) or called == "set"


def list_stars(tree):
    """Return the parts of the tree that are a star over a list or the like, or two stars over a dict."""
    found = []
    for node in ast.walk(tree):
        is_spread = isinstance(node, ast.Dict) and None in node.keys
        is_passed = isinstance(node, ast.keyword) and node.arg is None
        if isinstance(node, ast.Starred) or is_spread or is_passed:
            found.append(node)
    return found


def misplaced_stars(tree):
    """Return the ascending list of the lines where a star stands in the brackets of an index or in a set literal."""
    found = set()
    for node in ast.walk(tree):
        if isinstance(node, ast.Subscript):
            found |= {star.lineno for star in list_stars(node.slice)}
        if isinstance(node, ast.Set):
            found |= {item.lineno for item in node.elts if isinstance(item, ast.Starred)}
    return sorted(found)


def own_members():
    """Return the set of the methods that classes of the package define and the attributes that they assign."""
    found = set()
    for _, text in read_files():
        for node in ast.walk(ast.parse(text)):
            if isinstance(node, ast.ClassDef):
                found |= {part.name for part in node.body if isinstance(part, ast.FunctionDef)}
            if isinstance(node, ast.Attribute) and isinstance(node.ctx, ast.Store):
                found.add(node.attr)
    return found


def names_imported(tree):
    """Return the set of the names that the file imports."""
    return {alias.name for node in tree.body if isinstance(node, ast.ImportFrom) for alias in node.names}


class InterfaceTest(unittest.TestCase):
    def test_functions_are_defined_in_their_files(self):
        for module, functions in INTERFACE.items():
            found = importlib.import_module(f"samepictures.{module}")
            for name, parameters in functions.items():
                function = getattr(found, name)
                self.assertTrue(inspect.isfunction(function), name)
                self.assertEqual(function.__module__, f"samepictures.{module}")
                self.assertEqual(list(inspect.signature(function).parameters), parameters, name)

    def test_desk_is_defined_in_its_file(self):
        found = importlib.import_module("samepictures.desks")
        self.assertTrue(inspect.isclass(found.Desk))
        self.assertEqual(found.Desk.__module__, "samepictures.desks")
        for name, parameters in DESK.items():
            method = vars(found.Desk)[name]
            self.assertTrue(inspect.isfunction(method), name)
            self.assertEqual(list(inspect.signature(method).parameters), parameters, name)

    def test_package_defines_no_names(self):
        package = importlib.import_module("samepictures")
        tree = ast.parse((PACKAGE / "__init__.py").read_text(encoding="utf-8"))
        self.assertEqual(names_bound(tree), [])
        self.assertTrue(package.__doc__)


class LanguageTest(unittest.TestCase):
    def test_files(self):
        others = [path.name for path in PACKAGE.iterdir() if path.suffix != ".py" and path.name != "__pycache__"]
        self.assertEqual(others, [])
        for path, _ in read_files():
            self.assertRegex(path.stem, r"^[a-z_]+$")
            self.assertNotIn(path.stem, dir(builtins))

    def test_sizes_and_characters(self):
        for path, text in read_files():
            lines = text.split("\n")
            self.assertLessEqual(len(lines), 399, path)
            self.assertEqual(text[-1:], "\n", path)
            for k, line in enumerate(lines):
                self.assertLessEqual(len(line), 120, (path, k + 1))
                self.assertTrue(all(" " <= sign <= "~" for sign in line), (path, k + 1))
                self.assertEqual(line, line.rstrip(), (path, k + 1))
            for node in ast.walk(ast.parse(text)):
                if isinstance(node, ast.FunctionDef):
                    self.assertLessEqual(node.end_lineno - node.lineno + 1, 40, (path, node.name))
                    self.assertTrue(node.name in SPECIAL or ast.get_docstring(node), (path, node.name))

    def test_imports(self):
        own = {path.stem for path, _ in read_files()}
        for path, text in read_files():
            tree = ast.parse(text)
            for node in ast.walk(tree):
                if not isinstance(node, ast.ImportFrom):
                    continue
                self.assertIn(node, tree.body)
                self.assertEqual(node.level, 0)
                self.assertTrue(all(alias.asname is None and alias.name != "*" for alias in node.names))
                names = {alias.name for alias in node.names}
                if node.module in LIBRARY:
                    self.assertLessEqual(names, LIBRARY[node.module], path)
                    continue
                folder, _, stem = node.module.partition(".")
                self.assertEqual(folder, "samepictures", path)
                self.assertIn(stem, own - {"__init__"}, path)
                there = ast.parse((PACKAGE / f"{stem}.py").read_text(encoding="utf-8"))
                defined = {name for name, _ in names_bound(ast.Module(there.body, []))}
                self.assertLessEqual(names, defined - names_imported(there), path)

    def test_imports_are_used(self):
        for path, text in read_files():
            tree = ast.parse(text)
            used = {node.id for node in ast.walk(tree) if isinstance(node, ast.Name)}
            self.assertLessEqual(names_imported(tree), used, path)

    def test_no_two_files_import_each_other(self):
        graph = {}
        for path, text in read_files():
            modules = [node.module for node in ast.parse(text).body if isinstance(node, ast.ImportFrom)]
            graph[path.stem] = [name.partition(".")[2] for name in modules if name.startswith("samepictures.")]
        while graph:
            free = [stem for stem, needed in graph.items() if not any(other in graph for other in needed)]
            self.assertNotEqual(free, [], graph)
            for stem in free:
                del graph[stem]

    def test_module_level(self):
        for path, text in read_files():
            body = ast.parse(text).body
            self.assertTrue(isinstance(body[0], ast.Expr) and isinstance(body[0].value.value, str), path)
            bound = []
            for node in body[1:]:
                self.assertIsInstance(node, (ast.ImportFrom, ast.FunctionDef, ast.ClassDef, ast.Assign), path)
                if isinstance(node, ast.Assign):
                    self.assertEqual([type(target) for target in node.targets], [ast.Name], (path, node.lineno))
                    self.assertFalse([part for part in ast.walk(node.value) if isinstance(part, ast.Call)], path)
                    bound.append(node.targets[0].id)
                elif isinstance(node, ast.ImportFrom):
                    bound.extend([alias.name for alias in node.names])
                else:
                    bound.append(node.name)
            self.assertEqual(len(bound), len(set(bound)), path)

    def test_names(self):
        for path, text in read_files():
            tree = ast.parse(text)
            imported = names_imported(tree)
            for name, line in names_bound(tree):
                self.assertNotIn(name, dir(builtins), (path, line))
                self.assertNotIn(name, BARRED, (path, line))
                self.assertNotIn(name, imported, (path, line))
                self.assertTrue(name in {"_", *SPECIAL} or not name.startswith("_"), (path, line))

    def test_builtins_and_methods(self):
        members = METHODS | own_members()
        for path, text in read_files():
            tree = ast.parse(text)
            for node in ast.walk(tree):
                if isinstance(node, ast.Name) and node.id in dir(builtins):
                    self.assertIn(node.id, BUILTINS, (path, node.lineno))
                if isinstance(node, ast.Attribute):
                    self.assertIn(node.attr, members, (path, node.lineno))

    def test_members_of_classes(self):
        self.assertEqual(own_members() & NOT_MEMBERS, set())

    def test_methods_are_no_attributes(self):
        for path, text in read_files():
            for node in ast.walk(ast.parse(text)):
                if isinstance(node, ast.ClassDef):
                    methods = [part.name for part in node.body if isinstance(part, ast.FunctionDef)]
                    assigned = {
                        part.attr for part in ast.walk(node) if isinstance(part, ast.Attribute)
                        and isinstance(part.ctx, ast.Store)
                    }
                    self.assertEqual(assigned & set(methods), set(), path)
                    self.assertEqual(len(methods), len(set(methods)), path)

    def test_stored_sets(self):
        allowed = {"add", "discard"}
        for path, text in read_files():
            for function in ast.walk(ast.parse(text)):
                if not isinstance(function, ast.FunctionDef):
                    continue
                assigned = [node for node in ast.walk(function) if isinstance(node, ast.Assign)]
                names = {node.targets[0].id for node in assigned if is_set(node.value)}
                good = set()
                for node in ast.walk(function):
                    if isinstance(node, ast.Attribute) and node.attr in allowed:
                        good.add(node.value)
                    if isinstance(node, ast.Compare) and isinstance(node.ops[0], (ast.In, ast.NotIn)):
                        good.add(node.comparators[0])
                    if isinstance(node, ast.Assign):
                        good.update(node.targets)
                for node in ast.walk(function):
                    if isinstance(node, ast.Name) and node.id in names:
                        self.assertIn(node, good, (path, node.lineno))

    def test_library_words_are_only_called(self):
        for path, text in read_files():
            tree = ast.parse(text)
            words = {
                alias.name for node in tree.body if isinstance(node, ast.ImportFrom) and node.module in LIBRARY
                for alias in node.names
            }
            called = {node.func for node in ast.walk(tree) if isinstance(node, ast.Call)}
            for node in ast.walk(tree):
                if isinstance(node, ast.Name) and node.id in words:
                    self.assertIn(node, called, (path, node.lineno))

    def test_what_is_iterated_at_once(self):
        takers = {"list", "tuple", "dict", "sorted", "sum", "any", "all", "enumerate", "zip", "min", "max"}
        for path, text in read_files():
            tree = ast.parse(text)
            good = set()
            for node in ast.walk(tree):
                if isinstance(node, (ast.For, ast.comprehension)):
                    good.add(node.iter)
                if isinstance(node, ast.Call) and isinstance(node.func, ast.Name) and node.func.id in takers:
                    good.update(node.args)
            for node in ast.walk(tree):
                if isinstance(node, ast.Call):
                    name = getattr(node.func, "id", getattr(node.func, "attr", ""))
                    if name in {"zip", "enumerate", "range", "items", "keys", "values", "permutations", "reversed"}:
                        self.assertIn(node, good, (path, node.lineno))
                self.assertNotIsInstance(node, (ast.GeneratorExp, ast.Yield, ast.Lambda), path)

    def test_stars(self):
        for path, text in read_files():
            self.assertEqual(misplaced_stars(ast.parse(text)), [], path)

    def test_misplaced_stars_are_found(self):
        refused = (
            "rows[*ends]", "rows[1, *ends]", "rows[(*start, *end)]", "rows[(*ends,)] = 1", "rows[(*ends,)] += 1",
            "del rows[(*ends,)]", "rows[[*ends][0]]", "rows[max(*ends)]", "rows[:min(*ends)]", "rows[0][(1, (*ends,))]",
            "rows[others[(*ends,)]]", "call(rows[(*ends,)])", "(*rows[(*ends,)], 1)", "rows[call(**names)]",
            "rows[{**names}['a']]", "f'{rows[(*ends,)]}'", "[rows[(*each, 1)] for each in ends]", "{*ends}", "{1, *ends}",
            "for rows[(*ends,)] in others: pass", "def told(some: tuple[*ends]): pass",
            "class Box:\n def told(self): self.rows[(*self.ends,)] = 1", "rows[\n(*ends,)\n]",
        )
        for text in refused:
            self.assertEqual(misplaced_stars(ast.parse(text)), [1 + text.count("\n", 0, text.find("*"))], text)
        self.assertEqual(misplaced_stars(ast.parse("rows[(*a,)] = (*b,)\n\nrows[*c, *d]")), [1, 3])

    def test_stars_in_their_places_are_left(self):
        allowed = (
            "(*start, *end)", "[*rows, 1]", "[*rows][0]", "(*rows, 1)[k]", "(*rows[:k], one, *rows[k + 1:])",
            "call(*rows)[0]", "{**names, 'a': 1}", "{**names}['a']", "first, *rest = rows[0]", "*rest, rows[0] = others",
            "for name, *rest in rows[k]: pass", "rows[2 * k]", "rows[2 ** k]", "rows[k * 2:k ** 2]", "{a * 2, a ** 2}",
            "def told(*rest, **more): rest[0] * more[1]",
        )
        for text in allowed:
            self.assertEqual(misplaced_stars(ast.parse(text)), [], text)

    def test_statements_and_values(self):
        for path, text in read_files():
            for node in ast.walk(ast.parse(text)):
                place = (path, getattr(node, "lineno", 0))
                self.assertNotIsInstance(node, NODES_NOT_ALLOWED, place)
                if isinstance(node, ast.Constant):
                    self.assertNotIsInstance(node.value, (float, complex), place)
                if isinstance(node, (ast.FunctionDef, ast.ClassDef)):
                    self.assertEqual(node.decorator_list, [], place)
                if isinstance(node, ast.Compare) and any(isinstance(op, (ast.Is, ast.IsNot)) for op in node.ops):
                    self.assertIsInstance(node.comparators[0], ast.Constant, place)


if __name__ == "__main__":
    unittest.main()
