"""What holds for all functions: errors in their order, copies, names of parameters, equal results."""

import unittest

from roundways import mixtures
from roundways.errors import BadLot, BadNet, NoGoal, NoNode, WayError
from roundways.mixtures import is_moving, twice
from roundways.nets import Net, depths, is_sound
from values import any_values, double, nested, pair, picture, triangle

PARAMETERS = {
    "ways": ("net", "done", "lot", "goal"),
    "ring": ("net", "done", "lot", "goal"),
    "ranks": ("net", "done", "lot", "goal"),
    "are_ranks": ("net", "done", "lot", "goal", "thing"),
    "led": ("net", "done", "changed", "goal", "node"),
    "is_moving": ("net", "done", "lot", "goal", "node", "thing"),
    "reached": ("net", "done", "lot", "goal", "node"),
    "twice": ("net", "done", "lot", "goal", "node"),
}
THINGS = {"are_ranks": {"a": 2, "b": 0, "c": 1}, "is_moving": [("a", ()), ("b", ("c",)), ("g", ("c",))]}


def wrong_lots():
    """No lots of the triangle, and no lots of a part of its nodes."""
    return [value for value in any_values() if value != ()] + [
        "a", ["a"], [], ["a", "b"], {"a": 1}, ("b", "a"), ("a", "c", "b"), ("a", "a"), ("a", "b", "b"), ("g",),
        ("a", "d"), ("a", None), (True,), (1, 2), (("a",),), (["a"],), (("a", "b"),), ("",), ("ab",), {},
        ("a", ["b"]), nested("a", 3),
    ]


def arguments(name):
    """Arguments of a function that raise no error, by their names."""
    given = {"net": triangle(), "done": ("b",), "lot": ("c",), "changed": ("c",), "goal": "g", "node": "a"}
    given["thing"] = THINGS.get(name)
    return {parameter: given[parameter] for parameter in PARAMETERS[name]}


class ErrorsTest(unittest.TestCase):
    def raised(self, name, given):
        """The error of a call, which changes nothing, by names and by position."""
        before = picture(given)
        with self.assertRaises(WayError) as caught:
            getattr(mixtures, name)(**given)
        with self.assertRaises(WayError) as again:
            getattr(mixtures, name)(*given.values())
        self.assertEqual(picture(given), before)
        self.assertIs(type(caught.exception), type(again.exception))
        self.assertEqual(str(vars(caught.exception)), str(vars(again.exception)))
        return caught.exception

    def wrong(self, name, parameter, value, error, attribute, told):
        """The error told for the value, also if each later parameter is wrong as well."""
        given = arguments(name)
        given[parameter] = value
        names = PARAMETERS[name]
        for later in range(names.index(parameter), len(names)):
            if later > names.index(parameter):
                given[names[later]] = None
            caught = self.raised(name, given)
            self.assertIs(type(caught), error, (name, parameter, value))
            self.assertEqual(getattr(caught, attribute), told)
            self.assertIs(type(getattr(caught, attribute)), type(told))

    def test_nets(self):
        for name in PARAMETERS:
            for value in any_values() + [triangle().tables]:
                if not isinstance(value, Net):
                    self.wrong(name, "net", value, BadNet, "part", "net")

    def test_done(self):
        for name in PARAMETERS:
            for value in wrong_lots():
                self.wrong(name, "done", value, BadLot, "part", "done")

    def test_lot_and_changed(self):
        for name in PARAMETERS:
            part = PARAMETERS[name][2]
            for value in wrong_lots() + [("b",), ("a", "b"), ("a", "b", "c"), ("b", "c")]:
                self.wrong(name, part, value, BadLot, "part", part)

    def test_goals(self):
        for name in PARAMETERS:
            for value in any_values() + ["a", "h", ("g",), ["g"]]:
                self.wrong(name, "goal", value, NoGoal, "goal", value)

    def test_nodes(self):
        for name in PARAMETERS:
            if "node" in PARAMETERS[name]:
                for value in any_values() + ["g", "d", ("a",), ["a"]]:
                    given = arguments(name)
                    given["node"] = value
                    caught = self.raised(name, given)
                    self.assertIs(type(caught), NoNode)
                    self.assertEqual(caught.node, value)
                    self.assertIs(type(caught.node), type(value))

    def test_no_node_that_does_not_change_is_in_a_lot(self):
        for name in ("ways", "ring", "ranks", "are_ranks", "led", "is_moving", "reached", "twice"):
            function, rest = getattr(mixtures, name), ["g", "a", []][:len(PARAMETERS[name]) - 3]
            function(double(), (), ("a", "c"), *rest)
            for lots, part in (((("d",), ()), "done"), (((), ("d",)), PARAMETERS[name][2]),
                               (((), ("a", "d")), PARAMETERS[name][2]), ((("a", "d"), ("d",)), "done")):
                with self.assertRaises(BadLot) as caught:
                    function(double(), *lots, *rest)
                self.assertEqual(caught.exception.part, part)

    def test_a_lot_of_a_node_that_changes_for_another_goal(self):
        self.assertEqual(mixtures.ways(double(), (), ("b",), "g")["b"], ["c"])
        self.assertEqual(mixtures.ways(double(), ("b",), (), "g")["b"], ["c"])


class CallsTest(unittest.TestCase):
    def test_by_position_and_by_names(self):
        for name in PARAMETERS:
            for done, wanted in ((("b",), True), ((), name in ("ways", "ring", "led", "reached", "twice"))):
                function, given = getattr(mixtures, name), arguments(name)
                given["done"] = done
                by_names = function(**dict(reversed(list(given.items()))))
                self.assertEqual(picture(function(*given.values())), picture(by_names), name)
                self.assertEqual(bool(by_names), wanted and not (done and name in ("ring", "twice")), name)

    def test_arguments_are_not_changed(self):
        for name in PARAMETERS:
            given = arguments(name)
            before = picture(given)
            getattr(mixtures, name)(**given)
            self.assertEqual(picture(given), before)

    def test_what_is_returned_is_new_at_every_depth(self):
        for name in PARAMETERS:
            for lot in ((), ("a",), ("c",), ("a", "c")):
                given = arguments(name)
                given[PARAMETERS[name][2]] = lot
                first = getattr(mixtures, name)(**given)
                before = picture(first)
                self.spoil(first)
                self.assertEqual(picture(getattr(mixtures, name)(**given)), before)
                self.assertEqual(given["net"], triangle())

    def spoil(self, value):
        if isinstance(value, list):
            for item in value:
                self.spoil(item)
            value.append("spoiled")
        elif isinstance(value, dict):
            for item in value.values():
                self.spoil(item)
            value["spoiled"] = "spoiled"

    def test_later_changes_of_what_was_judged(self):
        thing = [("a", ()), ("b", ("b",))]
        self.assertIs(is_moving(pair(), (), ("b",), "g", "a", thing), True)
        thing.append(("g", ("b",)))
        self.assertIs(is_moving(pair(), (), ("b",), "g", "a", thing), False)
        self.assertIs(is_moving(pair(), (), ("b",), "g", "a", thing[:2]), True)

    def test_equal_arguments_give_equal_results(self):
        tables = double().tables
        first = Net(tables, ["a", "d"], ["c", "a"])
        turned_keys = {goal: tuple(dict(reversed(list(table.items()))) for table in tables[goal]) for goal in ("h", "g")}
        second = Net(turned_keys, ("d", "a"), ("c", "a"))
        for name in PARAMETERS:
            rest = ["a", [("a", ())]] if name in ("led", "is_moving", "reached", "twice") else [{}]
            rest = rest[:len(PARAMETERS[name]) - 4]
            for goal in ("g", "h"):
                function = getattr(mixtures, name)
                self.assertEqual(picture(function(first, ("b",), ("a", "c"), goal, *rest)),
                                 picture(function(second, ("b",), ("a", "c"), goal, *rest)))
        self.assertEqual(picture(twice(pair(), (), ("a", "b"), "g", "a")), picture(twice(pair(), (), ("a", "b"), "g", "a")))

    def test_what_depths_returns_is_new(self):
        net = triangle()
        found = depths(net, "g", True)
        found["a"] = None
        self.assertEqual(depths(net, "g", True), {"a": 3, "b": 1, "c": 2})
        self.assertIs(is_sound(net), True)


if __name__ == "__main__":
    unittest.main()
