"""The rules for the files of the package that can be checked by looking at them."""

import ast
import builtins
import pathlib
import re
import unittest

import roundways

PACKAGE = pathlib.Path(roundways.__file__).parent
BUILTINS = """len range enumerate zip min max sum abs sorted reversed int str bool bytes list tuple dict set frozenset
    isinstance ord repr any all divmod iter next map Exception ValueError TypeError KeyError IndexError LookupError
    ZeroDivisionError ArithmeticError OverflowError RuntimeError NotImplementedError AttributeError StopIteration
    NotImplemented property staticmethod classmethod super""".split()
METHODS = """append clear copy count endswith extend find get index insert isalnum isalpha isdigit islower isspace
    isupper items join keys ljust lower lstrip partition pop remove replace reverse rfind rjust rpartition rsplit
    rstrip setdefault split splitlines startswith strip update upper values zfill bit_length add discard""".split()
SPECIAL = """__init__ __eq__ __repr__ __str__ __len__ __enter__ __exit__ __call__ __iter__ __lt__ __le__ __gt__ __ge__
    __ne__ __bool__ __contains__""".split()
WORDS = """type typing typing_extensions enum Enum IntEnum StrEnum Flag IntFlag Generic Protocol ABC ABCMeta namedtuple
    NamedTuple TypedDict TYPE_CHECKING abstractmethod""".split()
NO_NAMES = """register mro elements open input law version_info with_traceback add_note attrgetter breakpoint builtins
    compile copyright credits delattr dir eval exec exit gc getattr globals hasattr help id importlib license locals
    methodcaller os quit setattr vars sys""".split()
NO_NAMES_AT_ALL = "register mro elements open input law version_info with_traceback add_note".split()
NO_NODES = (ast.Global, ast.AsyncFunctionDef, ast.AsyncFor, ast.AsyncWith, ast.Await, ast.Import, ast.Div, ast.MatMult,
            ast.GeneratorExp)


def files():
    return [(path, path.read_text(encoding="utf-8")) for path in sorted(PACKAGE.rglob("*.py"))]


def nodes():
    for path, text in files():
        for node in ast.walk(ast.parse(text)):
            yield path, node


def bound_names(node):
    """The names that a node binds."""
    if isinstance(node, (ast.FunctionDef, ast.ClassDef)):
        return [node.name]
    if isinstance(node, ast.arg):
        return [node.arg]
    if isinstance(node, ast.Name) and isinstance(node.ctx, ast.Store):
        return [node.id]
    if isinstance(node, ast.ExceptHandler) and node.name:
        return [node.name]
    return []


def starred_indexes(text):
    """The lines of the indexes within whose brackets a star stands."""
    return sorted({node.lineno for node in ast.walk(ast.parse(text)) if isinstance(node, ast.Subscript)
                   and any(isinstance(part, ast.Starred) for part in ast.walk(node.slice))})


class FilesTest(unittest.TestCase):
    def test_the_folder_holds_only_files_of_python(self):
        for path in PACKAGE.rglob("*"):
            if "__pycache__" not in path.parts:
                self.assertTrue(path.is_dir() or re.fullmatch(r"[a-z0-9_]+\.py", path.name), path)

    def test_sizes_and_characters(self):
        for path, text in files():
            lines = text.split("\n")
            self.assertLessEqual(len(lines) - 1, 399, path)
            self.assertTrue(all(sign == "\n" or " " <= sign <= "~" for sign in text), path)
            self.assertLessEqual(max(len(line) for line in lines), 120, path)
            self.assertTrue(text.endswith("\n"), path)

    def test_functions_are_small(self):
        for path, node in nodes():
            if isinstance(node, ast.FunctionDef):
                self.assertLessEqual(node.end_lineno - node.lineno + 1, 40, (path, node.name))

    def test_words_that_do_not_occur(self):
        for path, text in files():
            for row in ast.walk(ast.parse(text)):
                names = bound_names(row)
                if isinstance(row, ast.Attribute):
                    names = [row.attr]
                for name in names:
                    self.assertNotIn(name, WORDS, path)
            self.assertFalse(re.search("dataclass|overload|contextmanager|_wall|_WallAttr", text), path)


class CodeTest(unittest.TestCase):
    def test_statements_and_values(self):
        for path, node in nodes():
            self.assertNotIsInstance(node, NO_NODES, (path, getattr(node, "lineno", 0)))
            if isinstance(node, ast.Constant):
                self.assertIsInstance(node.value, (int, str, bytes, type(None)), path)
            if isinstance(node, ast.Constant) and isinstance(node.value, str):
                self.assertNotIn("\x25", node.value, path)
                self.assertFalse(node.value.endswith(("._", ".__")), path)

    def test_module_level(self):
        allowed = (ast.FunctionDef, ast.ClassDef, ast.ImportFrom, ast.Assign, ast.Expr)
        for path, text in files():
            body = ast.parse(text).body
            bound = []
            for at, row in enumerate(body):
                self.assertIsInstance(row, allowed, path)
                if isinstance(row, ast.Expr):
                    self.assertEqual(at, 0, path)
                    self.assertIsInstance(row.value, ast.Constant, path)
                if isinstance(row, ast.Assign):
                    self.assertEqual(len(row.targets), 1, path)
                    self.assertFalse([part for part in ast.walk(row.value) if isinstance(part, ast.Call)], path)
                    bound.append(row.targets[0].id)
                elif isinstance(row, ast.ImportFrom):
                    bound.extend(alias.asname or alias.name for alias in row.names)
                elif not isinstance(row, ast.Expr):
                    bound.append(row.name)
            self.assertEqual(len(bound), len(set(bound)), path)

    def test_imports(self):
        allowed = {"heapq": "heappush heappop heapify heapreplace heappushpop", "math": "gcd lcm isqrt comb perm factorial",
                   "itertools": "product combinations permutations"}
        for path, node in nodes():
            if isinstance(node, ast.ImportFrom):
                self.assertEqual(node.level, 0, path)
                for alias in node.names:
                    self.assertNotEqual(alias.name, "*", path)
                    self.assertTrue(node.module.startswith("roundways.")
                                    or alias.name in allowed.get(node.module, "").split(), path)

    def test_names(self):
        for path, text in files():
            tree = ast.parse(text)
            imports = [alias.asname or alias.name for row in tree.body if isinstance(row, ast.ImportFrom)
                       for alias in row.names]
            classes = [row.name for row in tree.body if isinstance(row, ast.ClassDef)]
            methods = [part for row in tree.body if isinstance(row, ast.ClassDef) for part in row.body]
            for node in ast.walk(tree):
                for name in bound_names(node):
                    where = (path, name, node.lineno)
                    if not isinstance(node, ast.ClassDef) and node not in methods:
                        self.assertNotIn(name, imports + classes, where)
                    if node not in methods:
                        self.assertFalse(hasattr(builtins, name), where)
                        self.assertNotIn(name, NO_NAMES, where)
                    self.assertTrue(re.fullmatch(r"_|_?[A-Za-z][A-Za-z0-9_]*", name) or name in SPECIAL, where)
                if isinstance(node, ast.Name) and isinstance(node.ctx, ast.Load):
                    self.assertNotEqual(node.id, "_", path)
                    if hasattr(builtins, node.id):
                        self.assertIn(node.id, BUILTINS, (path, node.lineno))

    def test_no_star_stands_within_the_brackets_of_an_index(self):
        for path, text in files():
            self.assertEqual(starred_indexes(text), [], path)

    def test_stars_in_indexes_are_found(self):
        for row in ("safe[(*lot, node)] = True", "k = safe[(*lot, node)]", "del safe[(*lot, node)]", "safe[*lot, node] = 1",
                    "k = safe[*lot]", "del k, safe[*lot, node]", "safe[(*lot,)] += 1", "k = safe[[*lot][0]]",
                    "k, safe[(node, *lot)] = 1, 2", "for safe[(*lot, 1)] in rows:\n        pass", "box.safe[(*lot, 1)].many = 1",
                    "k = safe[0][(*lot, 1)]", "k = safe[rows[(*lot, 1)]]", "k = safe[(1, (*lot, 2))]", "k = [safe[(*lot, m)] for m in lot]",
                    "k = safe[max(*lot)]", "with box[(*lot, 1)] as k:\n        pass", "k = lot[len([*lot]):]", "return (*lot, safe[(*lot,)])"):
            self.assertEqual(starred_indexes(f"def step(safe, lot):\n    {row}\n"), [2], row)
        for row in ("longer = (*lot, node)\n    safe[longer] = True", "k = [*lot, safe[0]]", "first, *rest = safe[1:]",
                    "k = safe[2 * lot[0]]", "k = safe[lot[0] ** 2]", "safe[lot] = (*lot, 1)", "del safe[lot]", "k = [*safe[0]]"):
            self.assertEqual(starred_indexes(f"def step(safe, lot):\n    {row}\n"), [], row)

    def test_decorators_are_properties(self):
        for path, node in nodes():
            if isinstance(node, (ast.FunctionDef, ast.ClassDef)):
                for decorator in node.decorator_list:
                    self.assertIsInstance(node, ast.FunctionDef)
                    self.assertEqual(ast.unparse(decorator), "property", (path, node.name))

    def test_calls_of_methods(self):
        own = {row.name for _, node in nodes() if isinstance(node, ast.ClassDef) for row in node.body
               if isinstance(row, ast.FunctionDef)}
        for path, node in nodes():
            if isinstance(node, ast.Call) and isinstance(node.func, ast.Attribute):
                self.assertIn(node.func.attr, METHODS + sorted(own), (path, node.lineno))

    def test_is_only_with_none_true_and_false(self):
        for path, node in nodes():
            if isinstance(node, ast.Compare):
                for operator, value in zip(node.ops, node.comparators):
                    if isinstance(operator, (ast.Is, ast.IsNot)):
                        self.assertIsInstance(value, ast.Constant, (path, node.lineno))

    def test_sets_are_sorted_or_counted_on_the_spot(self):
        inside = set()
        for path, node in nodes():
            if isinstance(node, ast.Call) and isinstance(node.func, ast.Name) and node.func.id in ("sorted", "len"):
                inside.update((path, part.lineno, part.col_offset) for part in node.args)
        for path, node in nodes():
            self.assertNotIsInstance(node, (ast.Set, ast.SetComp), path)
            if isinstance(node, ast.Call) and isinstance(node.func, ast.Name) and node.func.id == "set":
                self.assertIn((path, node.lineno, node.col_offset), inside)

    def test_errors_are_raised_by_the_names_of_their_classes(self):
        for path, node in nodes():
            if isinstance(node, ast.Raise):
                self.assertIsInstance(node.exc, ast.Call, (path, node.lineno))
                self.assertIsInstance(node.exc.func, ast.Name, (path, node.lineno))
                self.assertTrue(node.cause is None or isinstance(node.cause, ast.Constant), (path, node.lineno))

    def test_only_own_errors_are_caught(self):
        own = {node.name for _, node in nodes() if isinstance(node, ast.ClassDef)}
        for path, node in nodes():
            if isinstance(node, ast.Try):
                self.assertEqual(node.finalbody, [], (path, node.lineno))
            if isinstance(node, ast.ExceptHandler):
                self.assertIn(getattr(node.type, "id", None), own, (path, node.lineno))

    def test_what_is_done_when_a_block_is_left(self):
        blocks = [node for _, node in nodes() if isinstance(node, ast.FunctionDef) and node.name == "__exit__"]
        for block in blocks:
            self.assertEqual([part.arg for part in block.args.args], ["self", "kind", "value", "trace"])
            read = [part.id for part in ast.walk(block) if isinstance(part, ast.Name)]
            self.assertEqual(set(read) & {"value", "trace"}, set())
            for row in ast.walk(block):
                self.assertNotIsInstance(row, (ast.Call, ast.Subscript, ast.Return, ast.Raise, ast.For, ast.While, ast.Try))
                if isinstance(row, ast.Assign):
                    self.assertIsInstance(row.targets[0], ast.Attribute)
                    self.assertIsInstance(row.value, ast.Attribute)
                if isinstance(row, ast.Compare):
                    self.assertIn(ast.unparse(row), ("kind is None", "kind is not None"))
        self.assertEqual(len(blocks), 1)

    def test_names_of_methods_properties_and_attributes(self):
        rows = [(node, row) for _, node in nodes() if isinstance(node, ast.ClassDef) for row in node.body
                if isinstance(row, ast.FunctionDef)]
        properties = {row.name for _, row in rows if row.decorator_list}
        methods = {row.name for _, row in rows if not row.decorator_list}
        stored = {node.attr for _, node in nodes() if isinstance(node, ast.Attribute) and isinstance(node.ctx, ast.Store)}
        self.assertEqual(properties & methods, set())
        self.assertEqual(stored & (properties | methods), set())
        self.assertEqual(stored & set(METHODS), set())
        for path, node in nodes():
            if isinstance(node, ast.Attribute):
                self.assertNotIn(node.attr, NO_NAMES_AT_ALL + ["format", "format_map", "args"], (path, node.lineno))
                if node.attr.startswith("__"):
                    self.assertIn(node.attr, ("__init__", "__class__", "__name__"), (path, node.lineno))
                if node.attr == "__name__":
                    self.assertEqual(getattr(node.value, "attr", None), "__class__", (path, node.lineno))

    def test_properties_change_nothing(self):
        for path, node in nodes():
            if isinstance(node, ast.FunctionDef) and node.decorator_list:
                for part in ast.walk(node):
                    self.assertFalse(isinstance(part, (ast.Attribute, ast.Subscript)) and not isinstance(part.ctx, ast.Load),
                                     (path, node.name))
                    if isinstance(part, ast.Call) and isinstance(part.func, ast.Attribute):
                        self.assertIn(part.func.attr, ("items", "values", "keys", "get"), (path, node.name))

    def test_keywords_of_builtins(self):
        allowed = {"sorted": ("key", "reverse"), "min": ("key", "default"), "max": ("key", "default"), "sum": ("start",),
                   "enumerate": ("start",), "zip": ("strict",)}
        for path, node in nodes():
            if isinstance(node, ast.Call) and isinstance(node.func, ast.Name) and node.func.id in BUILTINS:
                for keyword in node.keywords:
                    self.assertIn(keyword.arg, allowed.get(node.func.id, ()), (path, node.lineno))
                # L23: what is iterated at once stands in no other call than these.
                for part in node.args:
                    called = getattr(part, "func", None)
                    if getattr(called, "id", None) in ("zip", "enumerate", "reversed") or getattr(called, "attr", None) in ("items", "values"):
                        self.assertIn(node.func.id, "list tuple dict sorted sum any all enumerate zip min max".split(), (path, node.lineno))


if __name__ == "__main__":
    unittest.main()
