import unittest

from roundways.errors import BadNet, BadNumber, BadPlan, BadWish, BadWishes
from roundways.late import fewest_standing, is_late_fault, late_fault, least_price, most_standing, stands
from roundways.nets import Net
from roundways.plans import is_plan
from values import (any_values, chain, closing, crossed, double, fallback, losing, nested, other_net, pair, refusal, still,
                    stuck, triangle)

ALL = ["home", "lost", "posts", "rings"]


def is_told(net, wishes, plan, found):
    """Whether what late_fault told is a pair of one of the wishes and a late fault for it."""
    return type(found) is tuple and len(found) == 2 and found[0] in wishes and is_late_fault(net, found[0], plan, found[1])


class FaultsTest(unittest.TestCase):
    def priced(self, net, wishes, plan, wanted):
        """The functions agree on the least price, None if there is no late fault."""
        self.assertEqual(least_price(net, wishes, plan), wanted)
        found = late_fault(net, wishes, plan)
        if wanted is None:
            self.assertIsNone(found)
        else:
            self.assertIs(type(least_price(net, wishes, plan)), int)
            self.assertTrue(is_told(net, wishes, plan, found), found)
            wish, (stage, goal, changed, node) = found
            done = [other for lot in plan[:stage] for other in lot]
            self.assertEqual(len([other for other in done if other not in changed]), wanted)
        for many in range(7):
            self.assertIs(stands(net, wishes, plan, many), wanted is None or wanted > many)
        return found

    def test_a_price_of_one(self):
        # While b has its new way and a still its old one, packets go to and fro.
        found = self.priced(pair(), ["rings"], [("a",), ("b",)], 1)
        self.assertEqual((found[0], found[1][1:3]), ("rings", ("g", ("b",))))
        self.assertIn(found[1][0], (1, 2))
        self.assertIn(found[1][3], ("a", "b"))

    def test_a_price_of_nothing(self):
        for plan in ([("b",), ("a",)], [("a", "b")], [("b",)]):
            found = self.priced(pair(), ["rings"], plan, 0)
            self.assertEqual(found[1][1:3], ("g", ("b",)))

    def test_the_plan_without_rounds(self):
        self.priced(pair(), ["rings"], [], None)
        self.priced(pair(), ALL, (), None)
        self.priced(closing().turned(), ["rings"], [], 0)
        self.assertIs(is_late_fault(closing().turned(), "rings", [], (0, "g", (), "b")), True)
        for thing in ((1, "g", (), "b"), (0, "g", ("a",), "b"), (-1, "g", (), "b")):
            self.assertIs(is_late_fault(closing().turned(), "rings", [], thing), False)

    def test_the_last_stage(self):
        # Only when all nodes are done the three go around; the rounds ahead are safe, whoever is late.
        for plan in ([("a", "b", "c")], [("c",), ("a",), ("b",)]):
            found = self.priced(closing(), ["home"], plan, 0)
            self.assertEqual((found[0], found[1][1:]), ("home", ("g", ("a", "b", "c"), "b")))
        plan = [("a",), ("b",), ("c",)]
        self.assertEqual(self.priced(closing(), ["home"], plan[:2], None), None)
        self.assertIs(is_late_fault(closing(), "home", plan, (3, "g", ("a", "b", "c"), "b")), True)
        self.assertIs(is_late_fault(closing(), "home", plan, (2, "g", ("a", "b", "c"), "b")), True)
        self.assertIs(is_late_fault(closing(), "home", plan, (1, "g", ("a", "b", "c"), "b")), False)
        # In the last stage of pair the node a alone is late.
        self.assertIs(is_late_fault(pair(), "rings", [("a",), ("b",)], (2, "g", ("b",), "a")), True)
        self.assertIs(is_late_fault(pair(), "rings", [("a", "b")], (1, "g", ("b",), "a")), True)
        self.assertIs(is_late_fault(pair(), "rings", [("a",)], (1, "g", ("b",), "a")), False)

    def test_a_node_of_the_round_is_changed(self):
        found = self.priced(losing(), ["lost"], [("c",), ("b",)], 1)
        self.assertIn(found[1], [(stage, "g", ("b",), "a") for stage in (1, 2)])
        self.assertIs(is_late_fault(losing(), "lost", [("c",), ("b",)], (1, "g", ("b",), "a")), True)
        self.assertIs(is_late_fault(losing(), "lost", [("c",), ("b",)], (0, "g", ("b",), "a")), False)

    def test_prices_up_to_four(self):
        for many in range(1, 6):
            nodes = tuple("abcde"[:many])
            self.priced(fallback(many), ["lost"], [nodes, ("f",)], many)
            self.priced(fallback(many), ["lost"], [(node,) for node in (*nodes, "f")], many)
            self.priced(fallback(many), ["home", "rings"], [nodes, ("f",)], None)
            self.priced(fallback(many), ["lost"], [nodes[1:] or ("f",), (nodes[0], "f")][:many], max(many - 1, 0))
            self.priced(fallback(many), ["lost"], [("f",), nodes], 0)

    def test_packets_begin_at_sources_but_for_rings(self):
        plan = [("a",), ("b",)]
        for sources in ([], ["a"], ["b"], ["b", "a"]):
            net = Net(pair().tables, sources)
            self.priced(net, ["rings"], plan, 1)
            self.priced(net, ["home"], plan, 1 if sources else None)
            for node in ("a", "b"):
                self.assertIs(is_late_fault(net, "rings", plan, (1, "g", ("b",), node)), True)
                self.assertIs(is_late_fault(net, "home", plan, (1, "g", ("b",), node)), node in sources)
        for node in ("a", "b", "c"):
            self.assertIs(is_late_fault(losing(), "lost", [("b", "c")], (0, "g", ("b",), node)), node == "a")
            self.assertIs(is_late_fault(triangle(), "posts", [("a",)], (0, "g", ("a",), node)), node == "a")

    def test_posts(self):
        self.priced(triangle(), ["posts"], [("b",), ("c",), ("a",)], 1)
        self.priced(triangle(), ["posts"], [("b",), ("a", "c")], 0)
        self.priced(triangle(), ["posts", "rings"], [("b",), ("c",), ("a",)], 1)
        self.priced(triangle(), ["posts"], [("b",)], None)

    def test_two_goals(self):
        self.priced(crossed(), ["rings"], [("a",), ("b",)], 0)
        self.priced(crossed(), ["rings"], [("a", "b")], 0)
        self.assertIs(is_late_fault(crossed(), "rings", [("a", "b")], (0, "h", ("a",), "b")), True)
        self.assertIs(is_late_fault(crossed(), "rings", [("a", "b")], (0, "g", ("a",), "b")), False)
        self.assertIs(is_late_fault(crossed(), "rings", [("a", "b")], (0, "g", ("b",), "b")), True)
        self.priced(double(), ["lost"], [], 0)
        self.priced(double(), ["lost"], [("a",), ("c",), ("b",)], 0)

    def test_several_wishes(self):
        plan = [("c",), ("b",)]
        self.priced(losing(), ALL, plan, 1)
        self.priced(losing(), [], plan, None)
        self.priced(losing(), ["home", "posts", "rings"], plan, None)
        # The least price counts, not the first wish: against rings the plan of triangle stands nothing.
        net = Net(triangle().tables, ["a"], ["b"])
        found = self.priced(net, ["posts", "rings"], [("c",), ("b",), ("a",)], 0)
        self.assertEqual(found[0], "rings")
        self.assertEqual(self.priced(net, ["rings", "posts"], [("b",), ("a", "c")], 0)[0], "posts")

    def test_a_plan_that_is_passed_may_lack_nodes(self):
        self.priced(triangle(), ["rings"], [("a", "b")], None)
        self.priced(triangle(), ["rings"], [("c",)], 0)
        self.priced(stuck(), ["rings"], [("b",), ("d",)], 1)
        self.priced(chain(), ["home"], [("f",)], 0)

    def test_any_value_is_judged(self):
        plan = [("a",), ("b",)]
        good = (1, "g", ("b",), "a")
        self.assertIs(is_late_fault(pair(), "rings", plan, good), True)
        for value in any_values() + [list(good), good[:3], (*good, 1), "1gba", {0: good}, [good], (good,)]:
            self.assertIs(is_late_fault(pair(), "rings", plan, value), False)
        for at, others in enumerate((
                any_values() + [3, -1, True, "1", None, (1,), 10 ** 999],
                any_values() + ["a", "h", ("g",), ["g"]],
                any_values() + [["b"], ("a",), ("a", "b"), "b", ("b", "b"), ("c",), {"b": 1}, (("b",),)],
                any_values() + ["g", "c", ("a",), ["a"]])):
            for value in others:
                if value != good[at] or isinstance(value, bool):
                    thing = (*good[:at], value, *good[at + 1:])
                    wanted = at == 0 and value == 2 and not isinstance(value, bool)
                    self.assertIs(is_late_fault(pair(), "rings", plan, thing), wanted, thing)
        self.assertIs(is_late_fault(pair(), "rings", plan, (True, "g", ("b",), "a")), False)
        self.assertIs(is_late_fault(pair(), "rings", plan, (2, "g", ("b",), "b")), True)


class StandingTest(unittest.TestCase):
    def stood(self, net, wishes, rounds):
        """For each number of late nodes so many rounds are the fewest, None if no plan stands so many."""
        for many, wanted in enumerate(rounds):
            found = fewest_standing(net, wishes, many)
            if wanted is None:
                self.assertIsNone(found)
            else:
                self.assertIs(type(found), list)
                self.assertEqual(len(found), wanted)
                self.assertTrue(is_plan(net, wishes, found))
                self.assertTrue(stands(net, wishes, found, many))
        most = len([wanted for wanted in rounds if wanted is not None]) - 1
        self.assertEqual(most_standing(net, wishes), most)
        self.assertIs(type(most_standing(net, wishes)), int)

    def test_plans_that_stand_late_nodes(self):
        self.stood(pair(), ["rings"], [2, None, None, None, None, None, None])
        self.stood(pair(), ["home"], [1] * 7)
        self.stood(triangle(), ["posts", "rings"], [3, None, None, None, None, None, None])
        self.stood(losing(), ["lost"], [2, None, None, None, None, None, None])
        self.stood(crossed(), ["rings"], [None] * 7)
        self.stood(closing(), ["rings"], [None] * 7)
        self.stood(closing(), ["lost", "posts"], [1] * 7)

    def test_numbers_between(self):
        for many in range(1, 6):
            self.stood(fallback(many), ["lost"], [2] * many + [None] * (7 - many))
            self.assertEqual(fewest_standing(fallback(many), ["lost"], many - 1), [tuple("abcde"[:many]), ("f",)])

    def test_nothing_changes(self):
        self.stood(still(), ALL, [0] * 7)
        self.stood(still(["c", "b"]), ["posts"], [None] * 7)
        self.stood(still(["c", "b"]), ["home"], [0] * 7)
        self.assertEqual(fewest_standing(still(), [], 6), [])
        self.assertIs(stands(still(), ALL, [], 6), True)
        self.assertIs(stands(still(["c", "b"]), ["posts"], [], 0), False)
        self.assertEqual(late_fault(still(["c", "b"]), ["posts"], []), ("posts", (0, "g", (), "a")))

    def test_no_wishes(self):
        for net in (pair(), triangle(), chain(), double(), closing()):
            self.stood(net, [], [1] * 7)
            self.assertIsNone(late_fault(net, [], [net.changing]))
            self.assertIsNone(least_price(net, (), []))

    def test_six_nodes(self):
        self.assertEqual(most_standing(chain(), ["rings"]), 0)
        self.assertEqual(len(fewest_standing(chain(), ["rings"], 0)), 2)


class ErrorsTest(unittest.TestCase):
    def refused(self, error, told, function, *given):
        refusal(self, error, told, function, *given)

    def test_plans(self):
        wrong = [(value, None) for value in any_values() + ["ab", {"a": 1}, {("a",): 1}]
                 if not isinstance(value, (list, tuple))]
        wrong += [([value], 0) for value in any_values()]
        wrong += [(([("a",), value]), 1) for value in any_values()]
        wrong += [
            ([()], 0), ([("a",), ()], 1), ([("a",), (), ("b",)], 1), ([("b", "a")], 0), ([("a",), ("c", "b")], 1),
            ([["a"]], 0), ([("a",), ["b"]], 1), (["a"], 0), ("a", None), (("a",), 0), (("a", "b"), 0), ([("d",)], 0),
            ([("a",), ("b", "d")], 1), ([("a",), ("g",)], 1), ([("a",), ("a",)], 1), ([("a",), ("b",), ("a", "c")], 2),
            ([("a", "b"), ("b", "c")], 1), ([("a",), ("b",), ("c",), ("a",)], 3), ([("a", "a")], 0), ([("a",), None, ()], 1),
            ([("b",), ("a",), ["c"], ("b",)], 2), ([("a", "b", "c"), ("a",)], 1), (nested(("a",), 2), 0),
            ([(("a",),)], 0), ([("a", ["b"])], 0), ([("a", True)], 0), ([(), "b"], 0),
        ]
        for plan, at in wrong:
            for plan in [plan, tuple(plan)] if isinstance(plan, list) else [plan]:
                if plan in ([], ()):
                    continue
                self.refused(BadPlan, at, late_fault, triangle(), ["rings"], plan)
                self.refused(BadPlan, at, least_price, triangle(), ["rings"], plan)
                self.refused(BadPlan, at, is_late_fault, triangle(), "rings", plan, (0, "g", ("a",), "a"))
                self.refused(BadPlan, at, stands, triangle(), ["rings"], plan, 7)

    def test_nodes_that_do_not_change(self):
        self.refused(BadPlan, 1, late_fault, double(), [], [("a",), ("d",)])
        self.refused(BadPlan, 0, least_price, double(), [], [("a", "d")])
        self.refused(BadPlan, 0, stands, still(), [], [("a",)], 0)
        self.refused(BadPlan, 0, stands, still(), [], [()], 0)

    def test_numbers(self):
        for value in any_values() + [7, -1, "1", True, False, (1,)]:
            if not (type(value) is int and 0 <= value <= 6):
                self.refused(BadNumber, value, stands, pair(), ["rings"], [("a",)], value)
                self.refused(BadNumber, value, fewest_standing, pair(), ["rings"], value)
        for value in range(7):
            self.assertIs(stands(pair(), ["rings"], [("a",)], value), True)

    def test_the_first_wrong_one_is_told(self):
        self.refused(BadNet, "net", late_fault, None, None, None)
        self.refused(BadNet, "net", is_late_fault, pair().tables, None, None, None)
        self.refused(BadNet, "net", stands, [pair()], None, None, None)
        self.refused(BadNet, "net", most_standing, BadNet("net"), None)
        self.refused(BadWishes, ..., late_fault, other_net(), ["ring"], None)
        self.refused(BadWishes, ..., least_price, other_net(), "home", None)
        self.refused(BadWishes, ..., fewest_standing, other_net(), ["home", "home"], None)
        self.refused(BadWishes, ..., most_standing, other_net(), None)
        self.refused(BadWish, ..., is_late_fault, other_net(), ["home"], None, None)
        self.refused(BadPlan, None, is_late_fault, other_net(), "home", None, None)
        self.refused(BadPlan, None, stands, other_net(), [], 5, None)
        self.refused(BadNumber, None, stands, other_net(), [], [], None)


if __name__ == "__main__":
    unittest.main()
