"""Names, files, parameters, and what imports what."""

import ast
import importlib
import inspect
import pathlib
import unittest

import roundways
from roundways import blockers, costs, errors, late, mixtures, nets, plans, seen, slow, wishes

PACKAGE = pathlib.Path(roundways.__file__).parent
ORDER = ["errors", "nets", "mixtures", "wishes", "blockers", "plans", "costs", "late", "slow", "seen", "live",
         "journals", "texts", "desk"]
FUNCTIONS = {
    "nets": {"depths": "net goal is_new", "is_sound": "net"},
    "mixtures": {
        "ways": "net done lot goal", "ring": "net done lot goal", "ranks": "net done lot goal",
        "are_ranks": "net done lot goal thing", "led": "net done changed goal node",
        "is_moving": "net done lot goal node thing", "reached": "net done lot goal node",
        "twice": "net done lot goal node",
    },
    "wishes": {
        "keeps": "net done lot wishes", "first_broken": "net done lot wishes", "shown": "net done lot wish",
        "is_shown": "net done lot wish thing",
    },
    "blockers": {
        "blockers": "net done wishes", "greatest_rounds": "net done wishes", "why_not": "net done lot wishes",
    },
    "plans": {
        "is_plan": "net wishes thing", "by_depth": "net", "fewest": "net wishes", "is_fewest": "net wishes thing",
        "how_many": "net wishes many", "plan_at": "net wishes many place",
    },
    "costs": {"cost": "net wishes", "costs": "net", "quarrels": "net many", "saved": "net wishes other"},
    "late": {
        "late_fault": "net wishes plan", "least_price": "net wishes plan", "is_late_fault": "net wish plan thing",
        "stands": "net wishes plan many", "fewest_standing": "net wishes many", "most_standing": "net wishes",
    },
    "slow": {
        "is_slow": "net plan goal thing", "most_hops": "net plan goal node", "slow_twice": "net plan goal node",
        "slow_fault": "net wishes plan goal node", "hops_paper": "net plan goal node",
        "is_hops_paper": "net plan goal node thing",
    },
    "seen": {
        "is_story": "net plan sights thing", "story": "net plan sights", "stages": "net plan sights",
        "known": "net plan sights", "clash": "net plan sights",
    },
}
ERRORS = {
    "WayError": None, "BadNet": "part", "NoGoal": "goal", "NoNode": "node", "BadPlace": None, "BadLot": "part",
    "BadWish": None, "BadWishes": None, "BadPlan": "at", "BadNumber": "number", "BadSights": "at", "RoundOpen": None,
    "Unsafe": "wish", "NotSo": "node", "NoRound": None, "HalfDone": None, "NoPacket": "packet", "NothingDone": None,
    "BadJournal": "at", "BadText": "line",
}
NET_METHODS = {"__init__": "self tables sources posts", "way": "self goal node is_new", "turned": "self",
               "with_way": "self goal node is_new place"}
NET_PROPERTIES = ["tables", "goals", "nodes", "sources", "posts", "changing"]


def parameters(function):
    return list(inspect.signature(function).parameters)


def defined(row):
    """The names that a row at module level defines, those of imports excepted."""
    if isinstance(row, (ast.FunctionDef, ast.ClassDef)):
        return [row.name]
    return [target.id for target in row.targets] if isinstance(row, ast.Assign) else []


class InterfaceTest(unittest.TestCase):
    def test_functions_are_defined_in_their_files(self):
        for module_name, functions in FUNCTIONS.items():
            module = importlib.import_module(f"roundways.{module_name}")
            for name, wanted in functions.items():
                function = getattr(module, name)
                self.assertTrue(inspect.isfunction(function))
                self.assertEqual(function.__module__, module.__name__)
                self.assertEqual(parameters(function), wanted.split())
                self.assertEqual([p.default for p in inspect.signature(function).parameters.values()],
                                 [inspect.Parameter.empty] * len(wanted.split()))

    def test_errors_are_defined_in_their_file(self):
        for name, attribute in ERRORS.items():
            error = getattr(errors, name)
            self.assertTrue(inspect.isclass(error))
            self.assertEqual(error.__module__, "roundways.errors")
            if attribute:
                self.assertEqual(parameters(error.__init__), ["self", attribute])
                self.assertEqual(list(vars(error("a"))), [attribute])
        classes = [name for name, value in vars(errors).items() if inspect.isclass(value)]
        self.assertEqual(sorted(classes), sorted(ERRORS))

    def test_net_has_its_methods_in_its_own_body(self):
        self.assertEqual(nets.Net.__module__, "roundways.nets")
        self.assertEqual(nets.Net.__bases__, (object,))
        for name, wanted in NET_METHODS.items():
            self.assertEqual(parameters(vars(nets.Net)[name]), wanted.split())
        for name in NET_PROPERTIES:
            self.assertIsInstance(vars(nets.Net)[name], property)
            self.assertIsNone(vars(nets.Net)[name].fset)
        self.assertEqual([p.default for p in inspect.signature(nets.Net).parameters.values()][1:], [(), ()])

    def test_init_defines_nothing(self):
        rows = ast.parse((PACKAGE / "__init__.py").read_text()).body
        self.assertTrue(all(isinstance(row, ast.Expr) and isinstance(row.value, ast.Constant) for row in rows))

    def test_modules_import_only_modules_named_before(self):
        for path in sorted(PACKAGE.glob("*.py")):
            for row in ast.walk(ast.parse(path.read_text())):
                if isinstance(row, ast.ImportFrom) and row.module.startswith("roundways") and path.stem in ORDER:
                    other = row.module.split(".")[1]
                    self.assertIn(other, ORDER[:ORDER.index(path.stem)], path.name)

    def test_names_come_from_the_files_that_define_them(self):
        for module in (nets, mixtures, wishes, blockers, plans, costs, late, slow, seen):
            for row in ast.parse(inspect.getsource(module)).body:
                if isinstance(row, ast.ImportFrom):
                    source = importlib.import_module(row.module)
                    own = {name for node in ast.parse(inspect.getsource(source)).body for name in defined(node)}
                    for alias in row.names:
                        self.assertIn(alias.name, own, module.__name__)
                        self.assertIsNone(alias.asname)


if __name__ == "__main__":
    unittest.main()
