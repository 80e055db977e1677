import itertools
import unittest

from roundways.errors import BadNet, BadPlace, NoGoal, NoNode
from roundways.nets import Net, depths, is_sound
from values import any_values, chain, double, nested, other_net, pair, picture, triangle


def one_goal(old, new):
    return {"g": (old, new)}


class MadeTest(unittest.TestCase):
    def refused(self, part, *given, **named):
        before = picture((given, named))
        with self.assertRaises(BadNet) as caught:
            Net(*given, **named)
        self.assertEqual(caught.exception.part, part)
        self.assertEqual(picture((given, named)), before)

    def test_properties_of_one_goal(self):
        net = triangle()
        self.assertEqual(net.tables, {"g": ({"a": "b", "b": "c", "c": "g"}, {"a": "c", "b": "g", "c": "b"})})
        self.assertEqual((net.goals, net.nodes, net.sources, net.posts), (("g",), ("a", "b", "c"), ("a",), ("b",)))
        self.assertEqual(net.changing, ("a", "b", "c"))

    def test_properties_of_two_goals(self):
        net = double()
        self.assertEqual((net.goals, net.nodes), (("g", "h"), ("a", "b", "c", "d")))
        self.assertEqual((net.sources, net.posts), (("a", "d"), ("c", "a")))
        self.assertEqual(net.changing, ("a", "b", "c"))
        self.assertEqual(net.tables["h"][1], {"a": "d", "b": "a", "c": "h", "d": None})

    def test_without_sources_and_posts(self):
        net = Net({"g": ({"a": "g"}, {"a": None})})
        self.assertEqual((net.sources, net.posts, net.changing), ((), (), ("a",)))
        self.assertEqual(Net({"g": ({"a": "g"}, {"a": "g"})}).changing, ())
        self.assertEqual(Net({"g": ({"a": None}, {"a": None})}).changing, ())

    def test_kinds_of_the_properties(self):
        net = Net({"g": ({"b": "g", "a": "g"}, {"a": "b", "b": "g"})}, ["b", "a"], ["b", "a"])
        for value in (net.goals, net.nodes, net.sources, net.posts, net.changing, net.tables["g"]):
            self.assertIs(type(value), tuple)
        self.assertEqual((net.sources, net.posts), (("a", "b"), ("b", "a")))

    def test_keys_are_returned_ascending(self):
        net = Net({"z": ({"b": "z", "a": "b"}, {"b": "a", "a": "z"}), "g": ({"b": "g", "a": "b"}, {"b": "a", "a": "g"})})
        self.assertEqual(list(net.tables), ["g", "z"])
        for old, new in net.tables.values():
            self.assertEqual((list(old), list(new)), (["a", "b"], ["a", "b"]))
        self.assertEqual(list(net.with_way("g", "b", True, None).tables["g"][1]), ["a", "b"])
        self.assertEqual(list(net.turned().tables), ["g", "z"])

    def test_by_position_and_by_names(self):
        tables = triangle().tables
        net = Net(tables, ["a"], ["b"])
        self.assertEqual(Net(posts=["b"], tables=tables, sources=["a"]), net)
        self.assertEqual(Net(tables=tables, sources=("a",), posts=("b",)), net)

    def test_one_to_six_nodes(self):
        for many in range(1, 7):
            table = {name: "g" for name in "abcdef"[:many]}
            self.assertEqual(Net(one_goal(table, table)).nodes, tuple("abcdef"[:many]))
        table = {name: "z" for name in "abcdefg"}
        self.refused("tables", {"z": (table, table)})
        self.refused("tables", one_goal({}, {}))

    def test_one_or_two_goals(self):
        table = {"a": None}
        self.assertEqual(Net({"g": (table, table), "h": (table, table)}).goals, ("g", "h"))
        self.refused("tables", {})
        self.refused("tables", {"g": (table, table), "h": (table, table), "i": (table, table)})

    def test_names(self):
        for name in ("a", "z", "abcdef", "zzzzzz"):
            self.assertEqual(Net({"goal": ({name: "goal"}, {name: None})}).nodes, (name,))
            self.assertEqual(Net({name: ({"node": name}, {"node": None})}).goals, (name,))
        wrong = ["", "abcdefg", "A", "aB", "a1", "a ", " a", "a\n", "a_", "-", "\xe4", "{", "`", 1, True, None,
                 ("a",), ()]
        for name in wrong:
            self.refused("tables", {"goal": ({name: "goal"}, {name: None})})
            self.refused("tables", {name: ({"node": None}, {"node": None})})
            self.refused("tables", {name: ({"node": name}, {"node": None})})

    def test_a_goal_is_no_node(self):
        self.refused("tables", {"a": ({"a": None}, {"a": None})})
        table = {"a": None, "b": None}
        self.refused("tables", {"g": (table, table), "b": (table, table)})
        self.refused("tables", {"b": (table, table), "g": (table, table)})

    def test_pairs_are_tuples_of_two_dicts(self):
        table = {"a": "g"}
        for wrong in ([table, table], (table,), (table, table, table), table, (table, None), (None, table),
                      (table, [("a", "g")]), (), None, "ab", (table, ("a", "g")), (["a"], ["a"])):
            self.refused("tables", {"g": wrong})
            self.refused("tables", {"g": ({"a": "g"}, {"a": "g"}), "h": wrong})

    def test_all_dicts_have_the_same_nodes(self):
        table, more, other = {"a": None}, {"a": None, "b": None}, {"b": None}
        for first, second in ((table, more), (more, table), (table, other), (table, {}), ({}, table)):
            self.refused("tables", one_goal(first, second))
            self.refused("tables", {"g": (table, table), "h": (first, second)})
            self.refused("tables", {"h": (table, table), "g": (first, second)})
        self.refused("tables", {"g": (table, table), "h": (other, other)})

    def test_places(self):
        for place in ("b", "g", None):
            for is_new in (False, True):
                table = {"a": place, "b": "g"}
                tables = one_goal({"a": "g", "b": "g"}, table) if is_new else one_goal(table, {"a": "g", "b": "g"})
                self.assertEqual(Net(tables).tables["g"][is_new]["a"], place)
        for place in any_values() + ["a", "h", "c"]:
            if place is not None:
                self.refused("tables", one_goal({"a": place, "b": "g"}, {"a": "g", "b": "g"}))
                self.refused("tables", one_goal({"a": "g", "b": "g"}, {"a": place, "b": "g"}))

    def test_the_other_goal_is_no_place(self):
        good = {"a": "b", "b": None}
        for wrong in ({"a": "h", "b": None}, {"a": "b", "b": "h"}):
            self.refused("tables", {"g": (good, wrong), "h": (good, good)})
            self.refused("tables", {"g": (wrong, good), "h": (good, good)})
            self.assertEqual(Net({"g": (good, good), "h": (good, wrong)}).goals, ("g", "h"))

    def test_two_nodes_may_lead_to_one_another(self):
        table = {"a": "b", "b": "a"}
        self.assertEqual(Net(one_goal(table, table)).tables, {"g": (table, table)})

    def test_tables_of_other_kinds(self):
        for wrong in any_values() + [[("g", ({"a": "g"}, {"a": "g"}))], "g"]:
            self.refused("tables", wrong)
            self.refused("tables", tables=wrong)

    def test_sources(self):
        tables = triangle().tables
        for given, told in (([], ()), ((), ()), (["c", "a"], ("a", "c")), (("c", "b", "a"), ("a", "b", "c"))):
            self.assertEqual(Net(tables, given).sources, told)
        lists = [value for value in any_values() if value not in ([], (), ["a"])]
        for wrong in lists + ["a", "abc", ["a", "a"], ["g"], ["a", "d"], [["a"]], [None], {"a": 1}, [True], [1]]:
            self.refused("sources", tables, wrong)
            self.refused("sources", tables, sources=wrong, posts=["b"])

    def test_posts(self):
        tables = triangle().tables
        for given, told in (([], ()), (["c", "a"], ("c", "a")), (("a", "c"), ("a", "c")), (("b",), ("b",))):
            self.assertEqual(Net(tables, [], given).posts, told)
        lists = [value for value in any_values() if value not in ([], (), ["a"])]
        for wrong in lists + ["a", "ab", ["a", "a"], ["g"], ["a", "b", "c"], ("a", "b", "c"), [["a"]], {"a": 1}]:
            self.refused("posts", tables, ["a"], wrong)
            self.refused("posts", tables, posts=wrong)

    def test_the_first_wrong_parameter_is_told(self):
        tables = triangle().tables
        self.refused("tables", None, None, None)
        self.refused("tables", {}, ["x"], [])
        self.refused("tables", {}, [], ["x"])
        self.refused("sources", tables, ["x"], ["x"])
        self.refused("sources", tables, posts=["a", "b", "c"], sources=None)
        self.refused("posts", tables, ["a"], ["x"])


class ObjectTest(unittest.TestCase):
    def test_equality(self):
        self.assertEqual(triangle(), triangle())
        self.assertFalse(triangle() != triangle())
        tables = triangle().tables
        net = Net(tables, ["a", "c"], ["b", "c"])
        self.assertEqual(net, Net(tables, ("c", "a"), ("b", "c")))
        self.assertNotEqual(net, Net(tables, ["a"], ["b", "c"]))
        self.assertNotEqual(net, Net(tables, ["a", "c"], ["c", "b"]))
        self.assertNotEqual(net, Net(tables, ["a", "c"], ["b"]))
        self.assertNotEqual(net, net.with_way("g", "a", False, "g"))
        self.assertNotEqual(net, net.with_way("g", "a", True, "g"))

    def test_the_order_of_keys_has_no_meaning(self):
        first = Net({"g": ({"a": "b", "b": "g"}, {"a": "g", "b": "a"}), "h": ({"a": "h", "b": "h"}, {"a": "b", "b": "h"})})
        second = Net({"h": ({"b": "h", "a": "h"}, {"b": "h", "a": "b"}), "g": ({"b": "g", "a": "b"}, {"b": "a", "a": "g"})})
        self.assertEqual(first, second)
        self.assertEqual(str(first.tables), str(second.tables))

    def test_equal_to_no_value_of_another_kind(self):
        net = triangle()
        for value in [item for item in any_values() if not isinstance(item, Net)] + [net.tables, "g", object()]:
            self.assertFalse(net == value)
            self.assertFalse(value == net)
            self.assertTrue(net != value)

    def test_no_iteration(self):
        net = triangle()
        with self.assertRaises(TypeError):
            iter(net)
        with self.assertRaises(TypeError):
            list(net)
        with self.assertRaises(TypeError):
            "a" in net
        with self.assertRaises(TypeError):
            first, second = net

    def test_later_changes_of_what_was_passed(self):
        old, new = {"a": "b", "b": "g"}, {"a": "g", "b": "a"}
        tables, sources, posts = {"g": (old, new)}, ["a"], ["b"]
        net = Net(tables, sources, posts)
        old["a"] = None
        new["c"] = "g"
        tables["h"] = (old, new)
        sources.append("b")
        posts.clear()
        self.assertEqual(net, Net({"g": ({"a": "b", "b": "g"}, {"a": "g", "b": "a"})}, ["a"], ["b"]))
        self.assertEqual((net.nodes, net.sources, net.posts), (("a", "b"), ("a",), ("b",)))

    def test_one_dict_for_all_ways(self):
        table = {"b": "a", "a": None}
        net = Net({"g": (table, table), "h": (table, table)})
        self.assertEqual((net.changing, table), ((), {"b": "a", "a": None}))
        self.assertEqual(net.with_way("g", "a", True, "g").changing, ("a",))
        self.assertEqual(net.tables["h"][1]["a"], None)

    def test_later_changes_of_what_was_returned(self):
        net = double()
        tables = net.tables
        tables["g"][0]["a"] = None
        tables["g"][1].clear()
        del tables["h"]
        self.assertEqual(net, double())
        self.assertEqual(net.tables, double().tables)
        self.assertEqual(net.changing, ("a", "b", "c"))


class WayTest(unittest.TestCase):
    def test_way(self):
        net = double()
        self.assertEqual([net.way("g", node, False) for node in net.nodes], ["b", "c", "g", "a"])
        self.assertEqual([net.way("g", node, True) for node in net.nodes], ["c", "c", None, "a"])
        self.assertEqual([net.way("h", node, False) for node in net.nodes], ["d", "h", "b", None])
        self.assertEqual([net.way(node=node, is_new=True, goal="h") for node in net.nodes], ["d", "a", "h", None])

    def test_wrong_goals_and_nodes(self):
        net = triangle()
        for value in any_values() + ["a", "h"]:
            for call in (lambda: net.way(value, "a", True), lambda: net.way(value, "x", True),
                         lambda: net.with_way(value, "a", True, "g"), lambda: net.with_way(value, value, True, value)):
                with self.assertRaises(NoGoal) as caught:
                    call()
                self.assertEqual(caught.exception.goal, value)
        for value in any_values() + ["g", "d"]:
            for call in (lambda: net.way("g", value, False), lambda: net.with_way("g", value, True, "g"),
                         lambda: net.with_way("g", node=value, is_new=False, place="x")):
                with self.assertRaises(NoNode) as caught:
                    call()
                self.assertEqual(caught.exception.node, value)
        self.assertEqual(net, triangle())

    def test_turned(self):
        net = double().turned()
        self.assertEqual(net.tables["g"], (double().tables["g"][1], double().tables["g"][0]))
        self.assertEqual(net.tables["h"], (double().tables["h"][1], double().tables["h"][0]))
        self.assertEqual((net.sources, net.posts, net.changing), (("a", "d"), ("c", "a"), ("a", "b", "c")))
        self.assertEqual(net.turned(), double())
        self.assertNotEqual(net, double())

    def test_with_way(self):
        net = triangle()
        other = net.with_way("g", "a", True, None)
        self.assertEqual(other, Net({"g": (net.tables["g"][0], {"a": None, "b": "g", "c": "b"})}, ["a"], ["b"]))
        other = net.with_way(goal="g", node="c", is_new=False, place="a")
        self.assertEqual(other, Net({"g": ({"a": "b", "b": "c", "c": "a"}, net.tables["g"][1])}, ["a"], ["b"]))
        self.assertEqual(net, triangle())
        self.assertEqual(net.with_way("g", "a", False, "b"), net)
        self.assertEqual(net.with_way("g", "a", False, "c").changing, ("b", "c"))

    def test_with_way_of_one_of_two_goals(self):
        net = double().with_way("h", "d", True, "c")
        self.assertEqual((net.way("h", "d", False), net.way("h", "d", True)), (None, "c"))
        self.assertEqual(net.tables["g"], double().tables["g"])
        self.assertEqual(net.changing, ("a", "b", "c", "d"))
        self.assertEqual((net.sources, net.posts), (("a", "d"), ("c", "a")))

    def test_wrong_places(self):
        net = double()
        for place in any_values() + ["a", "h", "e"]:
            if place is not None:
                for is_new in (False, True):
                    with self.assertRaises(BadPlace):
                        net.with_way("g", "a", is_new, place)
        for place in ("b", "c", "d", "g", None):
            self.assertEqual(net.with_way("g", "a", True, place).way("g", "a", True), place)
        self.assertEqual(net, double())


class DepthsTest(unittest.TestCase):
    def test_depths(self):
        net = triangle()
        self.assertEqual(depths(net, "g", False), {"a": 3, "b": 2, "c": 1})
        self.assertEqual(depths(net, "g", True), {"a": 3, "b": 1, "c": 2})
        self.assertEqual(depths(goal="goal", is_new=False, net=chain()), {"a": 6, "b": 5, "c": 4, "d": 3, "e": 2, "f": 1})
        self.assertEqual(depths(chain(), "goal", True), {"a": 1, "b": 2, "c": 2, "d": 2, "e": 2, "f": 2})

    def test_where_the_ways_lead_elsewhere(self):
        self.assertEqual(depths(double(), "g", True), {"a": None, "b": None, "c": None, "d": None})
        self.assertEqual(depths(double(), "h", False), {"a": None, "b": 1, "c": 2, "d": None})
        net = Net(one_goal({"a": "b", "b": "a", "c": "a", "d": "g"}, {"a": "b", "b": "c", "c": "b", "d": None}))
        self.assertEqual(depths(net, "g", False), {"a": None, "b": None, "c": None, "d": 1})
        self.assertEqual(depths(net, "g", True), {"a": None, "b": None, "c": None, "d": None})

    def test_keys_ascend_and_each_dict_is_new(self):
        net = Net(one_goal({"c": "g", "a": "b", "b": "c"}, {"c": "g", "b": "g", "a": "g"}))
        found = depths(net, "g", False)
        self.assertEqual(list(found), ["a", "b", "c"])
        found.clear()
        self.assertEqual(depths(net, "g", False), {"a": 3, "b": 2, "c": 1})

    def test_is_sound(self):
        self.assertIs(is_sound(triangle()), True)
        self.assertIs(is_sound(net=chain()), True)
        self.assertIs(is_sound(pair()), True)
        self.assertIs(is_sound(double()), False)
        self.assertIs(is_sound(other_net()), False)
        self.assertIs(is_sound(other_net().turned()), False)

    def test_one_wrong_way_is_not_sound(self):
        tables = {"g": ({"a": "b", "b": "g"}, {"a": "g", "b": "a"}), "h": ({"a": "h", "b": "a"}, {"a": "b", "b": "h"})}
        net = Net(tables)
        self.assertIs(is_sound(net), True)
        for goal, node, is_new in itertools.product("gh", "ab", (False, True)):
            self.assertIs(is_sound(net.with_way(goal, node, is_new, None)), False)

    def test_a_ring_is_not_sound(self):
        self.assertIs(is_sound(Net(one_goal({"a": "b", "b": "a"}, {"a": "g", "b": "g"}))), False)
        self.assertIs(is_sound(Net(one_goal({"a": "g", "b": "g"}, {"a": "b", "b": "a"}))), False)

    def test_errors(self):
        for value in any_values():
            if not isinstance(value, Net):
                for call in (lambda: depths(value, "g", True), lambda: depths(value, None, True), lambda: is_sound(value)):
                    with self.assertRaises(BadNet) as caught:
                        call()
                    self.assertEqual(caught.exception.part, "net")
        for value in any_values() + ["a", "h", nested("g", 1)]:
            with self.assertRaises(NoGoal) as caught:
                depths(triangle(), value, False)
            self.assertEqual(caught.exception.goal, value)


if __name__ == "__main__":
    unittest.main()
