"""LANGUAGE.md: the rules that can be seen file by file in the package."""

import ast
import builtins
import pathlib
import re
import unittest

PACKAGE = pathlib.Path(__file__).resolve().parent.parent / "jointsapart"
LIBRARY = {
    "heapq": {"heappush", "heappop", "heapify", "heapreplace", "heappushpop"},
    "math": {"gcd", "lcm", "isqrt", "comb", "perm", "factorial"},
    # product, combinations and permutations are barred: a Round is iterated over and has a len (L2).
    "itertools": {"chain", "accumulate", "pairwise", "islice", "zip_longest"},
    "collections": {"defaultdict", "deque"},
}
BUILTINS = set("""len range enumerate zip min max sum abs sorted reversed int str bool list tuple dict set isinstance ord
    repr any all divmod pow map iter next Exception ValueError TypeError KeyError IndexError LookupError
    ZeroDivisionError ArithmeticError OverflowError RuntimeError NotImplementedError StopIteration NotImplemented
    property super""".split())
METHODS = set("""append clear copy count endswith extend find get index insert isalnum isalpha isdigit islower isspace
    isupper items join keys ljust lower lstrip partition pop remove replace reverse rfind rjust rpartition rsplit rstrip
    setdefault split splitlines startswith strip update upper values zfill bit_length title capitalize swapcase casefold
    center expandtabs removeprefix removesuffix rindex isascii isdecimal isnumeric istitle isidentifier isprintable
    add discard appendleft popleft extendleft rotate format""".split())
NO_NAMES = set("""register mro elements open input law version_info with_traceback add_note attrgetter breakpoint
    compile copyright credits delattr dir eval exec exit gc globals help id importlib license locals methodcaller os
    quit vars sys typing enum""".split())
NO_WORDS = re.compile(r"\b(type|typing|typing_extensions|enum|Enum|IntEnum|StrEnum|Flag|IntFlag|Generic|Protocol|ABC|"
                      r"ABCMeta|namedtuple|NamedTuple|TypedDict|TYPE_CHECKING|abstractmethod)\b|"
                      r"dataclass|overload|contextmanager")
DOUBLE = set("""init eq repr str len enter exit call iter lt le gt ge ne add sub mul floordiv mod pow and or xor lshift
    rshift neg pos invert abs bool contains getitem setitem""".split())
STATEMENTS = (
    ast.Assign, ast.AugAssign, ast.AnnAssign, ast.If, ast.While, ast.For, ast.Return, ast.Break, ast.Continue, ast.Pass,
    ast.Raise, ast.Assert, ast.Delete, ast.Nonlocal, ast.Match, ast.With, ast.Try, ast.Expr, ast.FunctionDef,
    ast.ClassDef, ast.ImportFrom)


class File:
    """A file of the package, read once."""

    def __init__(self, path):
        self.name = path.stem
        self.text = path.read_text("ascii")
        self.lines = self.text.split("\n")
        self.tree = ast.parse(self.text)
        self.nodes = list(ast.walk(self.tree))

    def of(self, *kinds):
        return [node for node in self.nodes if isinstance(node, kinds)]

    def defined(self):
        return [node.name for node in self.tree.body if isinstance(node, (ast.FunctionDef, ast.ClassDef))] + [
            target.id for node in self.tree.body if isinstance(node, ast.Assign) for target in node.targets]

    def imported(self):
        return [alias.name for node in self.of(ast.ImportFrom) for alias in node.names]

    def locals(self):
        """Names of parameters, variables and caught errors."""
        return ([node.arg for node in self.of(ast.arg)] + [node.name for node in self.of(ast.ExceptHandler) if node.name]
                + [node.id for node in self.of(ast.Name) if isinstance(node.ctx, ast.Store)])

    def docstrings(self):
        bearers = self.of(ast.Module, ast.ClassDef, ast.FunctionDef)
        return [node.body[0].value for node in bearers if ast.get_docstring(node) is not None]


FILES = {path.stem: File(path) for path in sorted(PACKAGE.glob("*.py"))}
PARENTS = {id(child): node for file in FILES.values() for node in file.nodes for child in ast.iter_child_nodes(node)}
GENERATORS = {node.name for file in FILES.values() for node in file.of(ast.FunctionDef)
              if any(isinstance(part, (ast.Yield, ast.YieldFrom)) for part in ast.walk(node))}
CLASSES = {node.name for file in FILES.values() for node in file.of(ast.ClassDef)}


class Language(unittest.TestCase):
    def each(self, nodes, holds, rule):
        for file in FILES.values():
            for node in nodes(file):
                line = getattr(node, "lineno", node)
                self.assertTrue(holds(node), f"{rule}: {file.name}, {line}")

    def test_files(self):
        found = [path for path in PACKAGE.rglob("*") if "__pycache__" not in path.parts]
        self.assertEqual(sorted(found), sorted(PACKAGE.glob("*.py")))
        self.assertLessEqual(len(found), 100)
        for file in FILES.values():
            self.assertRegex(file.name, r"^(__init__|[a-z][a-z0-9_]*)$")
            self.assertLessEqual(len(file.text.splitlines()), 399, file.name)
            self.assertRegex(file.text, r"\A[ -~\n]*\Z", file.name)
            self.assertNotIn("_wall", file.text)
            self.assertNotIn("_WallAttr", file.text)
            self.assertLessEqual(max(map(len, file.lines)), 120, file.name)

    def test_imports(self):
        for file in FILES.values():
            self.assertEqual(file.of(ast.Import), [])
            for node in file.of(ast.ImportFrom):
                self.assertIn(node, file.tree.body)
                names = [alias.name for alias in node.names]
                self.assertEqual([alias.asname for alias in node.names], [None] * len(names))
                self.assertEqual(node.level, 0)
                if node.module in LIBRARY:
                    self.assertLessEqual(set(names), LIBRARY[node.module])
                else:
                    package, module = node.module.split(".")
                    self.assertEqual(package, "jointsapart")
                    self.assertLessEqual(set(names), set(FILES[module].defined()))
                    self.assertFalse([name for name in names if name.startswith("_")])

    def test_no_circles_of_imports(self):
        needs = {name: {node.module.split(".")[1] for node in file.of(ast.ImportFrom) if "." in node.module}
                 for name, file in FILES.items()}
        while needs:
            free = [name for name in needs if not needs[name] & set(needs)]
            self.assertTrue(free, needs)
            needs = {name: needs[name] for name in needs if name not in free}

    def test_module_level(self):
        for file in FILES.values():
            self.assertIsNotNone(ast.get_docstring(file.tree), file.name)
            for node in file.tree.body[1:]:
                self.assertIsInstance(node, (ast.ImportFrom, ast.FunctionDef, ast.ClassDef, ast.Assign))
            bound = file.defined() + file.imported()
            self.assertEqual(len(bound), len(set(bound)), file.name)

    def test_statements(self):
        self.each(lambda file: file.of(ast.stmt), lambda node: isinstance(node, STATEMENTS), "L6")

    def test_functions(self):
        self.each(lambda file: file.of(ast.FunctionDef), lambda node: node.end_lineno - node.lineno < 40, "L10")
        self.each(lambda file: file.of(ast.FunctionDef), lambda node: all(
            ast.unparse(mark) in ("property", "staticmethod", "classmethod") or ast.unparse(mark).endswith(".setter")
            for mark in node.decorator_list), "L4")

    def test_double_underscores(self):
        self.each(lambda file: [node for node in file.of(ast.FunctionDef) if node.name.startswith("__")],
                  lambda node: node.name.strip("_") in DOUBLE and isinstance(PARENTS[id(node)], ast.ClassDef), "L5")
        self.each(lambda file: file.of(ast.ClassDef), lambda node: not node.decorator_list and not node.keywords, "L5")

    def test_bodies_of_double_underscores(self):
        """One statement each: what iterates, measures and compares does nothing else."""
        forms = {"__iter__": r"return iter\(self\.\w+\)", "__len__": r"return len\(self\.\w+\)",
                 "__eq__": r"return isinstance\(other, \w+\)( and \(?self\.\w+ == other\.\w+\)?)*"}
        self.each(lambda file: [node for node in file.of(ast.FunctionDef) if node.name in forms], lambda node: (
            len(node.body) == 1 and re.fullmatch(forms[node.name], ast.unparse(node.body[0]))), "L5, L28")

    def test_operators_and_properties_change_nothing(self):
        """No attribute or item is assigned in them."""
        self.each(lambda file: [part for node in file.of(ast.FunctionDef)
                                if node.decorator_list or node.name.startswith("__")
                                and node.name not in ("__init__", "__enter__", "__exit__")
                                for part in ast.walk(node)],
                  lambda node: not isinstance(node, (ast.Attribute, ast.Subscript)) or isinstance(node.ctx, ast.Load), "L5")

    def test_ends_of_trials(self):
        """In __exit__ attributes are assigned attributes, and what is told of the error is not read."""
        ends = [(file, node) for file in FILES.values() for node in file.of(ast.FunctionDef) if node.name == "__exit__"]
        self.assertTrue(ends)
        for file, node in ends:
            self.assertEqual(ast.unparse(node.args), "self, kind, value, trace")
            for row in node.body:
                self.assertRegex(ast.unparse(row), r"^(\w+ = self\.\w+|\w+\.\w+ = self(\.\w+)+)$", file.name)

    def test_attributes_and_methods_have_names_of_their_own(self):
        methods = {node.name for file in FILES.values() for node in file.of(ast.FunctionDef)
                   if isinstance(PARENTS[id(node)], ast.ClassDef)}
        assigned = {node.attr for file in FILES.values() for node in file.of(ast.Attribute)
                    if isinstance(node.ctx, ast.Store)}
        self.assertEqual(methods & assigned, set())

    def test_calls_of_the_library(self):
        """Chains are iterated at once; what is kept is not."""
        names = {"chain", "accumulate", "pairwise", "islice", "zip_longest", "map", "zip", "enumerate", "reversed"}
        self.each(lambda file: [node for node in file.of(ast.Call) if ast.unparse(node.func) in names], lambda node: (
            isinstance(PARENTS[id(node)], (ast.For, ast.comprehension)) or isinstance(PARENTS[id(node)], ast.Call)
            and ast.unparse(PARENTS[id(node)].func) in ("list", "tuple", "dict", "sum", "sorted", "enumerate", "zip")), "L23")

    def test_stars_in_calls(self):
        """Beside a star stand only names, attributes and literals; of builtins only max, min and zip take one."""
        starred = lambda file: [node for node in file.of(ast.Call)
                                if any(isinstance(part, ast.Starred) for part in node.args)]
        own = CLASSES | {node.name for file in FILES.values() for node in file.of(ast.FunctionDef)} | {"max", "min", "zip"}
        self.each(starred, lambda node: ast.unparse(node.func) in own and not node.keywords, "L7")
        self.each(starred, lambda node: all(isinstance(part.value if isinstance(part, ast.Starred) else part, (
            ast.Name, ast.Attribute, ast.Constant)) for part in node.args), "L7")

    def test_names_of_the_library(self):
        """Such a name is only called, with all arguments by position and without stars."""
        names = {name for found in LIBRARY.values() for name in found}
        self.each(lambda file: [node for node in file.of(ast.Name) if node.id in names & set(file.imported())], lambda node: (
            isinstance(PARENTS[id(node)], ast.Call) and PARENTS[id(node)].func is node and not PARENTS[id(node)].keywords
            and not any(isinstance(part, ast.Starred) for part in PARENTS[id(node)].args)), "L2")

    def test_expressions(self):
        self.each(lambda file: file.of(ast.Constant), lambda node: not isinstance(node.value, (float, complex)), "L7")
        self.each(lambda file: file.of(ast.BinOp, ast.AugAssign), lambda node: not isinstance(
            node.op, (ast.Div, ast.MatMult)), "L7")
        self.each(lambda file: [node for node in file.of(ast.BinOp) if isinstance(node.op, ast.Pow)],
                  lambda node: not isinstance(node.right, ast.Constant) or 0 <= node.right.value <= 64, "L27")
        self.each(lambda file: file.of(ast.GeneratorExp), lambda node: isinstance(PARENTS[id(node)], ast.Call)
                  and ast.unparse(PARENTS[id(node)].func) in ("list", "tuple", "dict") or "join" in ast.unparse(
                      PARENTS[id(node)]), "L7")
        self.each(lambda file: file.of(ast.Compare), lambda node: all(
            not isinstance(sign, (ast.Is, ast.IsNot)) or isinstance(part, ast.Constant)
            for sign, part in zip(node.ops, node.comparators)), "L20")

    def test_strings(self):
        for file in FILES.values():
            told = file.docstrings()
            for node in file.of(ast.Constant):
                if isinstance(node.value, str) and node not in told:
                    self.assertNotIn("%", node.value, (file.name, node.lineno))
                    self.assertIsNone(NO_WORDS.search(node.value), (file.name, node.lineno))

    def test_names(self):
        for file in FILES.values():
            bound = file.locals() + file.defined()
            for name in bound:
                self.assertNotIn(name, NO_NAMES, file.name)
                self.assertFalse(hasattr(builtins, name), (file.name, name))
                self.assertIsNone(NO_WORDS.search(name), (file.name, name))
                self.assertRegex(name, r"^_?[A-Za-z][A-Za-z0-9_]*$|^_$")
            for name in file.locals():
                self.assertNotIn(name, set(file.imported()) | CLASSES, file.name)

    def test_builtins(self):
        self.each(lambda file: [node for node in file.of(ast.Name) if hasattr(builtins, node.id)],
                  lambda node: node.id in BUILTINS, "L8")

    def test_methods(self):
        barred = {name for kind in (str, bytes, int, list, dict, set, tuple) for name in dir(kind)
                  if not name.startswith("_")} - METHODS
        self.each(lambda file: file.of(ast.Attribute), lambda node: node.attr not in barred, "L25")

    def test_calls_of_generators(self):
        """They are iterated at once, and beside the call stand only names, attributes and literals."""
        def iterated(node):
            above = PARENTS[id(node)]
            return (isinstance(above, (ast.For, ast.comprehension)) and above.iter is node or isinstance(above, ast.YieldFrom)
                    or isinstance(above, ast.Call) and ast.unparse(above.func) in ("list", "tuple", "enumerate", "zip"))
        calls = lambda file: [node for node in file.of(ast.Call) if ast.unparse(node.func) in GENERATORS]
        self.each(calls, iterated, "L23")
        self.each(calls, lambda node: all(isinstance(part, (ast.Name, ast.Attribute, ast.Constant))
                                          for part in node.args), "L23")
        names = [node.name for file in FILES.values() for node in file.of(ast.FunctionDef)]
        self.assertEqual([name for name in GENERATORS if names.count(name) > 1], [])

    def test_what_a_loop_walks_is_not_changed_in_it(self):
        """Neither by its name nor by another name that the function gives to the same thing."""
        changing = {"append", "clear", "extend", "insert", "pop", "remove", "reverse", "setdefault", "update", "sort"}

        def names_in(node):
            return {part.id for part in ast.walk(node) if isinstance(part, ast.Name)}

        def changed_in(loop):
            for node in ast.walk(loop):
                if isinstance(node, ast.Call) and isinstance(node.func, ast.Attribute) and node.func.attr in changing:
                    yield from names_in(node.func.value)
                if isinstance(node, ast.Subscript) and not isinstance(node.ctx, ast.Load):
                    yield from names_in(node.value)

        for file in FILES.values():
            for function in file.of(ast.FunctionDef):
                same = [{node.targets[0].id, node.value.id} for node in ast.walk(function) if isinstance(node, ast.Assign)
                        and isinstance(node.targets[0], ast.Name) and isinstance(node.value, ast.Name)]
                for loop in [node for node in ast.walk(function) if isinstance(node, ast.For)]:
                    walked = set() if ast.unparse(loop.iter).startswith("range(") else names_in(loop.iter)
                    for _ in same:
                        walked = walked.union(*[names for names in same if names & walked])
                    self.assertEqual(walked & set(changed_in(loop)), set(), (file.name, loop.lineno))

    def test_errors(self):
        allowed = CLASSES | {"KeyError", "ZeroDivisionError"}
        self.each(lambda file: file.of(ast.ExceptHandler), lambda node: node.type is not None and all(
            part.id in allowed for part in ast.walk(node.type) if isinstance(part, ast.Name)), "L19")
        self.each(lambda file: file.of(ast.Raise), lambda node: node.exc is None or isinstance(node.exc, ast.Call)
                  and ast.unparse(node.exc.func) in CLASSES, "L19")

    def test_sets(self):
        """A set is not iterated over."""
        self.each(lambda file: file.of(ast.For, ast.comprehension), lambda node: not isinstance(
            node.iter, (ast.Set, ast.SetComp)) and not ast.unparse(node.iter).startswith("set("), "L24")
