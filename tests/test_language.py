"""The rules for files of the package, as far as they can be seen in the code, and the interface."""

import ast
import builtins
import pathlib
import re
import unittest

FOLDER = pathlib.Path(__file__).resolve().parent.parent / "signskept"
FILES = sorted(FOLDER.glob("*.py"))
TREES = {path.stem: ast.parse(path.read_text(encoding="utf-8")) for path in FILES}
LIBRARY = {"heapq": {"heappush", "heappop", "heapify", "heapreplace", "heappushpop"},
           "math": {"gcd", "lcm", "isqrt", "comb", "perm", "factorial"}, "collections": {"deque", "defaultdict"}}
BUILTINS = set("""len range enumerate zip min max sum abs sorted reversed int str bool list tuple dict set isinstance
ord repr any all divmod iter next Exception ValueError TypeError KeyError IndexError LookupError ZeroDivisionError
ArithmeticError OverflowError RuntimeError NotImplementedError AttributeError StopIteration NotImplemented property
staticmethod classmethod super""".split())
METHODS = set("""append clear copy count endswith extend find get index insert isalnum isalpha isdigit islower isspace
isupper items join keys ljust lower lstrip partition pop remove replace reverse rfind rjust rpartition rsplit rstrip
setdefault split splitlines startswith strip update upper values zfill bit_length""".split())
DOUBLE = set("""__init__ __eq__ __repr__ __str__ __len__ __enter__ __exit__ __call__ __iter__ __lt__ __le__ __gt__ __ge__
__ne__ __add__ __sub__ __mul__ __floordiv__ __mod__ __pow__ __and__ __or__ __xor__ __lshift__ __rshift__ __radd__
__rsub__ __rmul__ __rfloordiv__ __rmod__ __rand__ __ror__ __rxor__ __rlshift__ __rrshift__ __iadd__ __isub__ __imul__
__iand__ __ior__ __ixor__ __neg__ __pos__ __invert__ __abs__ __bool__ __contains__ __getitem__ __setitem__""".split())
STATEMENTS = (ast.Assign, ast.If, ast.While, ast.For, ast.Return, ast.Break, ast.Continue, ast.Pass, ast.Raise,
              ast.Assert, ast.Delete, ast.Nonlocal, ast.Match, ast.With, ast.Try, ast.Expr, ast.FunctionDef)
BARRED_NAMES = set("""register mro elements open input law version_info with_traceback add_note attrgetter breakpoint
builtins compile copyright credits delattr dir eval exec exit gc globals help id importlib license locals methodcaller
os quit vars sys""".split())
BARRED_WORDS = set("""type typing typing_extensions enum Enum IntEnum StrEnum Flag IntFlag Generic Protocol ABC ABCMeta
namedtuple NamedTuple TypedDict TYPE_CHECKING abstractmethod""".split())
NO_ATTRIBUTES = set("""items keys values pop update append clear extend insert remove reverse setdefault sort args encode
decode hex fromhex format mro as_integer_ratio bit_count conjugate from_bytes is_integer to_bytes""".split())
VIEWS = ("items", "keys", "values")
MODIFYING = set("append add discard clear extend insert pop remove reverse setdefault sort update appendleft popleft".split())
INTERFACE = {
    "dresses": {"Dress": "marks within widened both none"},
    "wides": {"Wide": "bits narrow wide low above top dress signed widened fresh"},
    "operations": {"Operation": "arity needs z s holds gives serves"},
    "known": dict.fromkeys("known_words known reckon narrowly difference".split()),
    "programs": {"Program": """first words variables rows goes starts operation places widenings with_row with_more
                 without"""},
    "roads": {"Walk": "road steps dresses fails", "is_road": None, "roads": None},
    "tables": {"Table": "entries road_to", "Verdict": "place road many entries",
               **dict.fromkeys("is_closed verdict verdicts is_right worst".split())},
    "plays": {"Play": "wides dresses fails", "is_true": None, "bits_for": None},
    "leaving": {"Bench": "whole current left leave tried",
                **dict.fromkeys("may_leave leavable greatest cheapest_left".split())},
    "wants": dict.fromkeys("unfit wanted gift".split()),
    "spots": dict.fromkeys("reached goes_of points spots".split()),
    "puts": dict.fromkeys("unsure serves placed count_on".split()),
    "everyroad": {"EveryRoad": "certain already puts paper", "is_paper": None},
    "cuts": {"Cheapest": "puts cost flow", "cost_of": None, "flow_sum": None},
    "functions": {"Function": "__init__", "Group": "entry words function calls variables_in"},
    "books": {"Book": "__getitem__ __setitem__ __and__ __or__ __len__ __eq__ within", "alone": None, "is_kept": None},
    "wholeruns": {"Run": "steps ended fails __len__"},
    "joined": {"joined_sum": None},
    "bestbooks": {"BestBook": "book cost puts flow", "plain_books": None, "book_cost": None},
    "mixed": {"clashes": None, "keepers": None},
    "menus": {"Menu": "program changed helping fewest least __getitem__ __setitem__ __len__"},
    "papers": {"Checker": "accepted __call__", "paper_of": None},
    "texts": dict.fromkeys("format_program parse_program format_run parse_run".split()),
    "drafts": {"Draft": "now put_row put_more take_out undo copy trial", "tried": None},
}


def functions_of(tree):
    return [node for node in ast.walk(tree) if isinstance(node, ast.FunctionDef)]


def own_names():
    """The names of all functions, methods and classes of the package."""
    return {node.name for tree in TREES.values() for node in ast.walk(tree)
            if isinstance(node, (ast.FunctionDef, ast.ClassDef))}


def bound_names(tree):
    """All names that a file gives to something, attributes and methods aside."""
    methods = {id(node) for kind in ast.walk(tree) if isinstance(kind, ast.ClassDef) for node in kind.body}
    for node in ast.walk(tree):
        if isinstance(node, ast.Name) and isinstance(node.ctx, ast.Store):
            yield node.id
        elif isinstance(node, ast.ExceptHandler) and node.name is not None:
            yield node.name
        elif isinstance(node, ast.arg):
            yield node.arg
        elif isinstance(node, (ast.FunctionDef, ast.ClassDef)) and id(node) not in methods:
            yield node.name


def walked_in(node):
    """The names, attributes and items over which a loop goes, also by a view, a choice or enumerate and its kin."""
    if isinstance(node, (ast.Name, ast.Attribute, ast.Subscript)):
        return [ast.unparse(node)]
    if isinstance(node, ast.IfExp):
        return walked_in(node.body) + walked_in(node.orelse)
    if isinstance(node, ast.BoolOp):
        return [name for part in node.values for name in walked_in(part)]
    if isinstance(node, ast.Call) and isinstance(node.func, ast.Attribute) and node.func.attr in VIEWS:
        return walked_in(node.func.value)
    if isinstance(node, ast.Call) and isinstance(node.func, ast.Name) and node.func.id in ("enumerate", "zip", "reversed"):
        return [name for part in node.args for name in walked_in(part)]
    return []


def changed_in(statements):
    """The names, attributes and items of which something is changed in some statements."""
    for node in [node for statement in statements for node in ast.walk(statement)]:
        if isinstance(node, ast.Call) and isinstance(node.func, ast.Attribute) and node.func.attr in MODIFYING:
            yield ast.unparse(node.func.value)
        elif isinstance(node, ast.Call) and isinstance(node.func, ast.Name) and node.func.id.startswith("heap"):
            yield ast.unparse(node.args[0])
        elif isinstance(node, ast.Subscript) and isinstance(node.ctx, (ast.Store, ast.Del)):
            yield ast.unparse(node.value)


def other_names(function):
    """For each name, attribute or item of a function all that may be the same thing, by plain assignments."""
    groups = {}
    for node in ast.walk(function):
        if isinstance(node, ast.Assign):
            parts = [name for part in node.targets + [node.value] for name in walked_in(part)]
            joined = set(parts).union(*[groups.get(part, ()) for part in parts])
            groups.update({part: joined for part in joined})
    return groups


def plain(node):
    """Whether a value at module level is written out."""
    if isinstance(node, ast.Constant):
        return not isinstance(node.value, (float, complex))
    if isinstance(node, (ast.Tuple, ast.List)):
        return all(plain(part) for part in node.elts)
    if isinstance(node, ast.Dict):
        return all(plain(part) for part in node.keys + node.values)
    return isinstance(node, ast.UnaryOp) and isinstance(node.op, ast.USub) and plain(node.operand)


class Files(unittest.TestCase):
    def test_the_folder_holds_plain_files_alone(self):
        found = [path.name for path in FOLDER.iterdir() if path.name != "__pycache__"]
        for name in found:
            self.assertRegex(name, r"^([a-z][a-z0-9_]*|__init__|__main__)\.py$")
        self.assertIn("__init__.py", found)

    def test_sizes_and_signs(self):
        for path in FILES:
            text = path.read_text(encoding="utf-8")
            self.assertRegex(text, r"\A[ -~\n]*\Z", path.name)
            self.assertLessEqual(len(text.split("\n")), 399, path.name)
            self.assertLessEqual(max(len(line) for line in text.split("\n")), 120, path.name)
            for node in functions_of(TREES[path.stem]):
                self.assertLessEqual(node.end_lineno - node.lineno + 1, 40, (path.name, node.name))

    def test_words_that_are_barred(self):
        for path in FILES:
            bare = re.sub(r'"""(.|\n)*?"""|#.*', "", path.read_text(encoding="utf-8"))
            self.assertFalse(set(re.findall(r"\w+", bare)) & BARRED_WORDS, path.name)
            self.assertNotRegex(path.read_text(encoding="utf-8"), r"dataclass|overload|contextmanager|_wall")


class Modules(unittest.TestCase):
    def test_module_level(self):
        for name, tree in TREES.items():
            self.assertIsNotNone(ast.get_docstring(tree), name)
            for at, node in enumerate(tree.body):
                if isinstance(node, ast.Assign):
                    self.assertEqual(len(node.targets), 1)
                    self.assertTrue(isinstance(node.targets[0], ast.Name) and plain(node.value), (name, node.lineno))
                else:
                    good = (ast.ImportFrom, ast.FunctionDef, ast.ClassDef) + ((ast.Expr,) if at == 0 else ())
                    self.assertIsInstance(node, good, (name, node.lineno))

    def test_imports(self):
        needs = {}
        for name, tree in TREES.items():
            needs[name] = []
            for node in [node for node in ast.walk(tree) if isinstance(node, (ast.Import, ast.ImportFrom))]:
                self.assertIsInstance(node, ast.ImportFrom)
                self.assertTrue(all(alias.asname is None for alias in node.names))
                told = {alias.name for alias in node.names}
                if node.module in LIBRARY:
                    self.assertLessEqual(told, LIBRARY[node.module])
                    continue
                package, _, module = node.module.partition(".")
                self.assertEqual([package, node.level], ["signskept", 0])
                level = {part.name for part in TREES[module].body if isinstance(part, (ast.FunctionDef, ast.ClassDef))}
                level |= {part.targets[0].id for part in TREES[module].body if isinstance(part, ast.Assign)}
                self.assertLessEqual(told, level, name)
                needs[name].append(module)
                used = {part.id for part in ast.walk(tree) if isinstance(part, ast.Name)}
                self.assertLessEqual(told, used, name)
        while needs:
            free = [name for name in needs if not set(needs[name]) & set(needs)]
            self.assertTrue(free, "files import from each other")
            needs = {name: needs[name] for name in needs if name not in free}

    def test_the_interface(self):
        for module, things in INTERFACE.items():
            level = {node.name: node for node in TREES[module].body
                     if isinstance(node, (ast.FunctionDef, ast.ClassDef))}
            for name, methods in things.items():
                self.assertIn(name, level)
                if methods is not None:
                    told = {node.name for node in level[name].body if isinstance(node, ast.FunctionDef)}
                    self.assertLessEqual(set(methods.split()), told)


class Code(unittest.TestCase):
    def each(self, *kinds):
        for name, tree in TREES.items():
            for node in ast.walk(tree):
                if isinstance(node, kinds):
                    yield f"{name}.py:{getattr(node, 'lineno', 0)}", node

    def test_statements(self):
        for where, function in self.each(ast.FunctionDef):
            for node in ast.walk(function):
                if isinstance(node, ast.stmt):
                    self.assertIsInstance(node, STATEMENTS, where)

    def test_decorators_and_double_underscores(self):
        for where, node in self.each(ast.FunctionDef, ast.ClassDef):
            told = [ast.unparse(part) for part in node.decorator_list]
            self.assertTrue(all(re.fullmatch(r"property|staticmethod|classmethod|\w+\.setter", part) for part in told))
            if node.name.startswith("__"):
                self.assertIn(node.name, DOUBLE, where)
        for where, node in self.each(ast.ClassDef):
            names = {part.name for part in node.body if isinstance(part, ast.FunctionDef)}
            self.assertFalse("__getitem__" in names and "__iter__" not in names, where)

    def test_what_is_not_used(self):
        # Generator expressions, products and the like do not stand beside classes with an __eq__ and __iter__.
        for where, node in self.each(ast.GeneratorExp, ast.Lambda, ast.AugAssign, ast.AnnAssign, ast.NamedExpr,
                                     ast.Global, ast.Starred, ast.Await, ast.YieldFrom):
            self.fail(f"{where}: {ast.unparse(node)}")
        for where, node in self.each(ast.BinOp):
            self.assertNotIsInstance(node.op, (ast.Div, ast.Pow, ast.MatMult), where)
        for where, node in self.each(ast.Constant):
            self.assertNotIsInstance(node.value, (float, complex, bytes), where)
            if isinstance(node.value, str):
                self.assertNotIn("%", node.value, where)
        for where, node in self.each(ast.arg):
            self.assertIsNone(node.annotation, where)

    def test_sets_stand_where_they_may(self):
        fine = set()
        for _, node in self.each(ast.Call):
            if isinstance(node.func, ast.Name) and node.func.id in ("sorted", "len"):
                fine.update(id(part) for part in node.args)
        for where, node in self.each(ast.Set, ast.SetComp, ast.Call):
            if not isinstance(node, ast.Call) or ast.unparse(node.func) == "set":
                self.assertIn(id(node), fine, where)

    def test_is(self):
        for where, node in self.each(ast.Compare):
            if any(isinstance(op, (ast.Is, ast.IsNot)) for op in node.ops):
                self.assertIn(ast.unparse(node.comparators[-1]), ("None", "True", "False"), where)

    def test_what_a_loop_goes_over_is_not_changed_in_it(self):
        for where, function in self.each(ast.FunctionDef):
            same = other_names(function)
            for node in ast.walk(function):
                if isinstance(node, ast.For):
                    found = set(changed_in(node.body))
                    for name in walked_in(node.iter):
                        self.assertFalse(({name} | same.get(name, set())) & found, f"{where}: {ast.unparse(node.iter)}")

    def test_attributes_methods_and_properties(self):
        methods, properties, setters, attributes = set(), set(), set(), set()
        for _, node in self.each(ast.ClassDef):
            for part in [part for part in node.body if isinstance(part, ast.FunctionDef)]:
                told = [ast.unparse(one) for one in part.decorator_list]
                if f"{part.name}.setter" in told:
                    setters.add(part.name)
                (properties if told and told[0] == "property" else methods).add(part.name)
        for where, node in self.each(ast.Attribute):
            if isinstance(node.ctx, ast.Store):
                attributes.add(node.attr)
        self.assertFalse(properties & (methods - setters))
        self.assertFalse(attributes & (methods | properties))
        self.assertFalse(attributes & NO_ATTRIBUTES)

    def test_names(self):
        everything = set(dir(builtins)) - {"_"}
        for name, tree in TREES.items():
            level = {alias.name for node in tree.body if isinstance(node, ast.ImportFrom) for alias in node.names}
            level |= {node.name for node in tree.body if isinstance(node, ast.ClassDef)}
            own = [node.name for node in tree.body if isinstance(node, (ast.FunctionDef, ast.ClassDef))]
            self.assertEqual(len(own), len(set(own)))
            for bound in bound_names(tree):
                self.assertNotIn(bound, everything | BARRED_NAMES, name)
                self.assertRegex(bound, r"^(_?[A-Za-z][A-Za-z0-9_]*|_)$")
                self.assertFalse(bound in level and bound not in own, (name, bound))

    def test_builtins_and_methods(self):
        own = own_names()
        for name, tree in TREES.items():
            bound = set(bound_names(tree))
            bound |= {alias.name for node in tree.body if isinstance(node, ast.ImportFrom) for alias in node.names}
            setters = {id(part.value) for node in functions_of(tree) for part in node.decorator_list
                       if isinstance(part, ast.Attribute) and part.attr == "setter" and part.value.id == node.name}
            for node in ast.walk(tree):
                if isinstance(node, ast.Name) and isinstance(node.ctx, ast.Load) and id(node) not in setters:
                    self.assertIn(node.id, bound | BUILTINS, name)
                if isinstance(node, ast.Call) and isinstance(node.func, ast.Attribute):
                    self.assertIn(node.func.attr, METHODS | own, name)
                if isinstance(node, ast.Call) and isinstance(node.func, ast.Name) and node.func.id in BUILTINS:
                    self.assertLessEqual({part.arg for part in node.keywords}, {"key", "reverse", "default", "start"})

    def test_errors(self):
        errors = {node.name for node in TREES["errors"].body if isinstance(node, ast.ClassDef)}
        for where, node in self.each(ast.ExceptHandler):
            caught = node.type.elts if isinstance(node.type, ast.Tuple) else [node.type]
            self.assertLessEqual({part.id for part in caught}, errors | {"KeyError"}, where)
        for where, node in self.each(ast.Raise):
            if node.exc is not None:
                self.assertIsInstance(node.exc, ast.Call, where)
                self.assertIn(node.exc.func.id, errors | {"TypeError"}, where)


if __name__ == "__main__":
    unittest.main()
