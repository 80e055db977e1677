"""Names, files, parameters, and what imports what."""

import ast
import importlib
import inspect
import pathlib
import unittest

import roundways
from roundways import desk, errors, live, nets

PACKAGE = pathlib.Path(roundways.__file__).parent
ORDER = ["errors", "nets", "mixtures", "wishes", "blockers", "plans", "costs", "late", "slow", "seen", "live",
         "journals", "texts", "desk"]
FUNCTIONS = {
    "nets": {"depths": "net goal is_new", "is_sound": "net"},
    "mixtures": {
        "ways": "net done lot goal", "ring": "net done lot goal", "ranks": "net done lot goal",
        "are_ranks": "net done lot goal thing", "led": "net done changed goal node",
        "is_moving": "net done lot goal node thing", "reached": "net done lot goal node",
        "twice": "net done lot goal node",
    },
    "wishes": {
        "keeps": "net done lot wishes", "first_broken": "net done lot wishes", "shown": "net done lot wish",
        "is_shown": "net done lot wish thing",
    },
    "blockers": {
        "blockers": "net done wishes", "greatest_rounds": "net done wishes", "why_not": "net done lot wishes",
    },
    "plans": {
        "is_plan": "net wishes thing", "by_depth": "net", "fewest": "net wishes", "is_fewest": "net wishes thing",
        "how_many": "net wishes many", "plan_at": "net wishes many place",
    },
    "costs": {"cost": "net wishes", "costs": "net", "quarrels": "net many", "saved": "net wishes other"},
    "late": {
        "late_fault": "net wishes plan", "least_price": "net wishes plan", "is_late_fault": "net wish plan thing",
        "stands": "net wishes plan many", "fewest_standing": "net wishes many", "most_standing": "net wishes",
    },
    "slow": {
        "is_slow": "net plan goal thing", "most_hops": "net plan goal node", "slow_twice": "net plan goal node",
        "slow_fault": "net wishes plan goal node", "hops_paper": "net plan goal node",
        "is_hops_paper": "net plan goal node thing",
    },
    "seen": {
        "is_story": "net plan sights thing", "story": "net plan sights", "stages": "net plan sights",
        "known": "net plan sights", "clash": "net plan sights",
    },
    "journals": {"first_wrong": "net wishes journal", "replayed": "net wishes journal"},
    "texts": {"net_text": "net", "read_net": "text", "plan_text": "net plan", "read_plan": "net text"},
}
ERRORS = {
    "WayError": None, "BadNet": "part", "NoGoal": "goal", "NoNode": "node", "BadPlace": None, "BadLot": "part",
    "BadWish": None, "BadWishes": None, "BadPlan": "at", "BadNumber": "number", "BadSights": "at", "RoundOpen": None,
    "Unsafe": "wish", "NotSo": "node", "NoRound": None, "HalfDone": None, "NoPacket": "packet", "NothingDone": None,
    "BadJournal": "at", "BadText": "line",
}
CLASSES = {
    nets.Net: ({"__init__": "self tables sources posts", "way": "self goal node is_new", "turned": "self",
                "with_way": "self goal node is_new place"},
               ["tables", "goals", "nodes", "sources", "posts", "changing"]),
    live.Live: ({"__init__": "self net wishes", "begin": "self nodes", "change": "self node", "put_back": "self node",
                 "close": "self", "send": "self goal node", "hop": "self packet", "undo": "self", "passed": "self packet",
                 "fates": "self packet", "next_rounds": "self", "tried": "self work", "copy": "self", "__enter__": "self"},
                ["net", "wishes", "done", "round", "changed", "log"]),
    desk.Desk: ({"__init__": "self text wishes", "reply": "self line"}, []),
}


def parameters(function):
    return list(inspect.signature(function).parameters)


def defined(row):
    """The names that a row at module level defines, those of imports excepted."""
    if isinstance(row, (ast.FunctionDef, ast.ClassDef)):
        return [row.name]
    return [target.id for target in row.targets] if isinstance(row, ast.Assign) else []


class InterfaceTest(unittest.TestCase):
    def test_functions_are_defined_in_their_files(self):
        for module_name, functions in FUNCTIONS.items():
            module = importlib.import_module(f"roundways.{module_name}")
            for name, wanted in functions.items():
                function = getattr(module, name)
                self.assertTrue(inspect.isfunction(function))
                self.assertEqual(function.__module__, module.__name__)
                self.assertEqual(parameters(function), wanted.split())
                self.assertEqual([p.default for p in inspect.signature(function).parameters.values()],
                                 [inspect.Parameter.empty] * len(wanted.split()))

    def test_errors_are_defined_in_their_file(self):
        for name, attribute in ERRORS.items():
            error = getattr(errors, name)
            self.assertTrue(inspect.isclass(error))
            self.assertEqual(error.__module__, "roundways.errors")
            if attribute:
                self.assertEqual(parameters(error.__init__), ["self", attribute])
                self.assertEqual(list(vars(error("a"))), [attribute])
        classes = [name for name, value in vars(errors).items() if inspect.isclass(value)]
        self.assertEqual(sorted(classes), sorted(ERRORS))

    def test_classes_have_their_methods_in_their_own_bodies(self):
        for one, (methods, properties) in CLASSES.items():
            self.assertEqual(one.__module__, f"roundways.{one.__name__.lower()}".replace(".net", ".nets"))
            for name, wanted in methods.items():
                self.assertEqual(parameters(vars(one)[name]), wanted.split())
                defaults = [p.default for p in inspect.signature(vars(one)[name]).parameters.values()]
                if (one, name) != (nets.Net, "__init__"):
                    self.assertEqual(set(defaults), {inspect.Parameter.empty})
            for name in properties:
                self.assertIsInstance(vars(one)[name], property)
                self.assertIsNone(vars(one)[name].fset)
        self.assertIn("__exit__", vars(live.Live))
        self.assertEqual([p.default for p in inspect.signature(nets.Net).parameters.values()][1:], [(), ()])

    def test_init_defines_nothing(self):
        rows = ast.parse((PACKAGE / "__init__.py").read_text()).body
        self.assertTrue(all(isinstance(row, ast.Expr) and isinstance(row.value, ast.Constant) for row in rows))

    def test_modules_import_only_modules_named_before(self):
        self.assertLessEqual(set(ORDER), {path.stem for path in PACKAGE.glob("*.py")})
        for path in sorted(PACKAGE.glob("*.py")):
            for row in ast.walk(ast.parse(path.read_text())):
                if isinstance(row, ast.ImportFrom) and row.module.startswith("roundways") and path.stem in ORDER:
                    other = row.module.split(".")[1]
                    self.assertIn(other, ORDER[:ORDER.index(path.stem)], path.name)

    def test_names_come_from_the_files_that_define_them(self):
        for module in [importlib.import_module(f"roundways.{name}") for name in ORDER]:
            for row in ast.parse(inspect.getsource(module)).body:
                if isinstance(row, ast.ImportFrom):
                    source = importlib.import_module(row.module)
                    own = {name for node in ast.parse(inspect.getsource(source)).body for name in defined(node)}
                    for alias in row.names:
                        self.assertIn(alias.name, own, module.__name__)
                        self.assertIsNone(alias.asname)


if __name__ == "__main__":
    unittest.main()
