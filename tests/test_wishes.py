import unittest

from roundways.errors import BadLot, BadNet, BadWish, BadWishes
from roundways.nets import Net
from roundways.wishes import first_broken, is_shown, keeps, shown
from values import any_values, chain, closing, crossed, double, losing, nested, pair, still, stuck, triangle

WISHES = ["home", "lost", "posts", "rings"]


def broken_ones(net, done, lot):
    return [wish for wish in WISHES if not keeps(net, done, lot, [wish])]


class KeepsTest(unittest.TestCase):
    def test_rings(self):
        self.assertIs(keeps(triangle(), (), ("a", "b"), ["rings"]), True)
        self.assertIs(keeps(triangle(), (), ("c",), ["rings"]), False)
        self.assertIs(keeps(triangle(), (), ("b", "c"), ["rings"]), False)
        self.assertIs(keeps(triangle(), ("b",), ("a", "c"), ["rings"]), True)
        self.assertIs(keeps(triangle(), ("c",), (), ["rings"]), False)
        self.assertIs(keeps(triangle(), ("c",), ("b",), ["rings"]), False)
        self.assertIs(keeps(chain(), ("a",), ("b", "c", "d", "e", "f"), ["rings"]), True)
        self.assertIs(keeps(chain(), (), ("a", "f"), ["rings"]), False)

    def test_a_ring_may_be_at_any_node(self):
        # No packet of the source comes to b and c.
        net = Net(triangle().tables, ["a"]).with_way("g", "a", False, "g")
        self.assertEqual(broken_ones(net, (), ("c",)), ["rings"])
        self.assertEqual(broken_ones(net, (), ("a", "c")), ["home", "rings"])
        self.assertEqual(broken_ones(pair(), (), ("b",)), ["rings"])

    def test_home(self):
        self.assertEqual(broken_ones(chain(), (), ("b", "c", "d", "e")), ["rings"])
        self.assertEqual(broken_ones(chain(), (), ("f",)), ["home", "rings"])
        self.assertEqual(broken_ones(chain(), (), ("a", "f")), ["home", "rings"])
        self.assertEqual(broken_ones(chain(), ("a",), ("f",)), [])
        self.assertEqual(broken_ones(closing(), ("a", "c"), ("b",)), ["home", "rings"])
        self.assertEqual(broken_ones(closing(), (), ("a", "b")), [])

    def test_lost(self):
        self.assertEqual(broken_ones(losing(), (), ("b",)), ["lost"])
        self.assertEqual(broken_ones(losing(), (), ("b", "c")), ["lost"])
        self.assertEqual(broken_ones(losing(), ("b",), ("c",)), ["lost"])
        self.assertEqual(broken_ones(losing(), ("b",), ()), ["lost"])
        self.assertEqual(broken_ones(losing(), (), ("c",)), [])
        self.assertEqual(broken_ones(losing(), ("c",), ("b",)), [])
        self.assertEqual(broken_ones(losing(), (), ()), [])

    def test_posts(self):
        self.assertEqual(broken_ones(triangle(), (), ("a",)), ["posts"])
        self.assertEqual(broken_ones(triangle(), (), ("a", "b")), ["posts"])
        self.assertEqual(broken_ones(triangle(), ("b",), ("c",)), [])
        self.assertEqual(broken_ones(triangle(), ("b", "c"), ("a",)), [])
        self.assertEqual(broken_ones(stuck(), (), ("c",)), ["home", "rings"])
        self.assertEqual(broken_ones(stuck(), (), ("b",)), ["posts"])
        self.assertEqual(broken_ones(stuck(), (), ("a", "c")), ["home", "posts", "rings"])

    def test_posts_in_their_order(self):
        for posts in ([], ["a"], ["b"], ["c"], ["a", "b"], ["a", "c"], ["b", "c"]):
            self.assertEqual(broken_ones(still(posts), (), ()), [])
        for posts in (["b", "a"], ["c", "a"], ["c", "b"]):
            self.assertEqual(broken_ones(still(posts), (), ()), ["posts"])
        self.assertEqual(broken_ones(still(["a"], ["b"]), (), ()), ["posts"])
        self.assertEqual(broken_ones(still(["b", "c"], ["b"]), (), ()), [])
        self.assertEqual(broken_ones(still(["b", "c"], ["b", "c"]), (), ()), ["posts"])

    def test_packets_that_do_not_come_to_the_goal_need_not_pass_posts(self):
        table = {"a": None, "b": "g", "c": "d", "d": "c"}
        net = Net({"g": (table, table)}, ["a", "c"], ["b"])
        self.assertEqual(broken_ones(net, (), ()), ["home", "lost", "rings"])

    def test_a_wish_is_broken_at_a_moment_between(self):
        # With b and c both as they were, or both changed, each packet comes to the goal.
        self.assertEqual(broken_ones(triangle(), (), ("b", "c")), ["home", "rings"])
        self.assertEqual(broken_ones(triangle(), ("a",), ("b", "c")), ["home", "posts", "rings"])
        self.assertEqual(broken_ones(triangle(), ("a", "b", "c"), ()), [])

    def test_without_sources_only_rings_are_broken(self):
        for net in (triangle(), losing(), chain(), stuck()):
            net = Net(net.tables, [], net.posts)
            for lot in ((), ("b",), net.changing):
                self.assertIn(broken_ones(net, (), lot), ([], ["rings"]))

    def test_one_of_two_goals_is_enough(self):
        self.assertEqual(broken_ones(crossed(), (), ("a",)), ["home", "rings"])
        self.assertEqual(broken_ones(crossed(), (), ("b",)), ["home", "rings"])
        self.assertEqual(broken_ones(crossed(), (), ()), [])
        self.assertEqual(broken_ones(double(), (), ()), ["lost", "posts"])
        self.assertEqual(broken_ones(double(), ("c",), ()), ["lost"])

    def test_no_wishes(self):
        for net in (triangle(), chain(), double(), losing()):
            for lot in ((), net.changing):
                self.assertIs(keeps(net, (), lot, []), True)
                self.assertIs(keeps(net, (), lot, ()), True)
                self.assertIsNone(first_broken(net, (), lot, []))

    def test_several_wishes(self):
        self.assertIs(keeps(triangle(), (), ("a",), ["rings", "home", "lost"]), True)
        self.assertIs(keeps(triangle(), (), ("a",), ["rings", "home", "lost", "posts"]), False)
        self.assertIs(keeps(triangle(), (), ("a",), ("posts", "rings")), False)
        self.assertIs(keeps(losing(), (), ("b",), ("lost", "rings")), False)

    def test_first_broken(self):
        every = ["rings", "posts", "lost", "home"]
        self.assertEqual(first_broken(stuck(), (), ("a", "c"), every), "home")
        self.assertEqual(first_broken(stuck(), (), ("a", "c"), ["rings", "posts", "lost"]), "posts")
        self.assertEqual(first_broken(stuck(), (), ("a", "c"), ("rings", "lost")), "rings")
        self.assertIsNone(first_broken(stuck(), (), ("a", "c"), ["lost"]))
        self.assertEqual(first_broken(double(), (), (), every), "lost")
        self.assertIsNone(first_broken(triangle(), (), (), every))

    def test_wishes_are_lists_of_different_wishes(self):
        wrong = [value for value in any_values() if value not in ([], ())] + [
            "home", "rings", ["ring"], ["Home"], ["home", "home"], ("rings", "rings"), [["home"]], {"home": 1}, [None],
            ["home", None], WISHES + ["home"], WISHES + ["more"], [("home",)], ["home", ["lost"]], {"home", "lost"},
        ]
        for value in wrong:
            for function in (keeps, first_broken):
                with self.assertRaises(BadWishes):
                    function(triangle(), (), ("a",), value)


class ShownTest(unittest.TestCase):
    def judged(self, net, done, lot, wish, thing):
        found = is_shown(net, done, lot, wish, thing)
        self.assertIs(type(found), bool)
        return found

    def paper(self, net, done, lot, wish, paper):
        """Whether it is a paper for the only goal."""
        return self.judged(net, done, lot, wish, ("kept", {net.goals[0]: paper}))

    def test_what_is_shown(self):
        for net in (triangle(), chain(), closing(), crossed(), double(), losing(), still(), still(["b", "a"]), stuck()):
            for done, lot in (((), ()), ((), net.changing), (net.changing, ()), ((), net.changing[:1]),
                              (net.changing[:1], net.changing[1:])):
                for wish in WISHES:
                    found = shown(net, done, lot, wish)
                    self.assertIs(type(found), tuple)
                    self.assertEqual(found[0], "kept" if keeps(net, done, lot, [wish]) else "broken")
                    self.assertTrue(self.judged(net, done, lot, wish, found))
                    if found[0] == "kept":
                        self.assertEqual(list(found[1]), list(net.goals))
                        self.assertTrue(all(type(paper) is dict for paper in found[1].values()))

    def test_papers_against_rings(self):
        def judged(paper):
            return self.paper(triangle(), (), ("a", "b"), "rings", paper)

        # In the round a leads to b and c, b to c and the goal, and c to the goal.
        self.assertTrue(judged({"a": 2, "b": 1, "c": 0}))
        self.assertTrue(judged({"c": 0, "b": 1, "a": 2}))
        self.assertTrue(judged({"a": 10 ** 999, "b": 7, "c": 5}))
        for wrong in ({"a": 2, "b": 0, "c": 1}, {"a": 1, "b": 1, "c": 0}, {"a": 2, "b": 1, "c": 1}, {"a": 0, "b": 1, "c": 0},
                      {"a": 2, "b": 1}, {"b": 1, "c": 0}, {"a": 2, "b": 1, "c": -1}, {"a": 2, "b": True, "c": 0},
                      {"a": 2, "b": 1, "c": False}, {"a": 3, "b": 2, "c": 1, "g": 0}, {"a": 2, "b": 1, "c": 0, "d": 0},
                      {}, {"a": 2, "b": 1, "c": None}, {"a": 2, "b": "1", "c": 0}, {"a": (2,), "b": 1, "c": 0},
                      [("a", 2), ("b", 1), ("c", 0)], (2, 1, 0)):
            self.assertFalse(judged(wrong), wrong)

    def test_papers_against_rings_of_packets_from_sources(self):
        def judged(paper, lot=("a",)):
            return self.paper(Net(triangle().tables, ["c"]), (), lot, "home", paper)

        # Packets of the source c come to no other node; a leads to b and c, b to c.
        self.assertTrue(judged({"c": 0}))
        self.assertTrue(judged({"c": 9}))
        self.assertTrue(judged({"b": 1, "c": 0}))
        self.assertTrue(judged({"c": 3, "a": 5, "b": 4}))
        for wrong in ({}, {"b": 1}, {"c": 0, "a": 5}, {"c": 0, "b": 0}, {"c": 1, "b": 0}, {"c": 0, "a": 1, "b": 1},
                      {"c": 1, "b": 2, "a": 2}, {"c": -1}, {"c": False}, {"c": True}, {"c": 0, "g": 0}, {"c": 0, "d": 1},
                      {"c": 0, None: 1}, {"c": 0, ("b",): 1}, {"a": 2, "b": 1}):
            self.assertFalse(judged(wrong), wrong)
        # Packets of c come to b by its new way, and by the old way of b back.
        for paper in ({"c": 0}, {"c": 1, "b": 0}, {"c": 0, "b": 1}, {"a": 2, "b": 1, "c": 1}):
            self.assertFalse(judged(paper, ("c",)))

    def test_papers_without_sources(self):
        net = Net(triangle().tables, [], ["b"])
        for wish in ("home", "lost", "posts"):
            self.assertTrue(self.paper(net, (), ("a",), wish, {}))
        self.assertTrue(self.paper(net, (), ("c",), "home", {}))
        self.assertFalse(self.paper(net, (), ("a",), "rings", {}))
        self.assertFalse(self.paper(net, (), ("a",), "home", {"b": 1}))
        self.assertTrue(self.paper(net, (), ("a",), "lost", {"b": 1, "c": 1}))
        self.assertFalse(self.paper(net, (), ("a",), "lost", {"b": 1}))

    def test_papers_against_losses(self):
        def judged(paper, done=("c",), lot=("b",)):
            return self.paper(losing(), done, lot, "lost", paper)

        # a leads to b, b to the goal and to c, c to the goal.
        self.assertTrue(judged({"a": 0, "b": 0, "c": 0}))
        self.assertTrue(judged({"a": 1, "b": 5, "c": 10 ** 999}))
        for wrong in ({"a": 0, "b": 0}, {"a": 0}, {"b": 0, "c": 0}, {}, {"a": 0, "b": 0, "c": -1}, {"a": 0, "b": True, "c": 0},
                      {"a": 0, "b": 0, "c": 0, "g": 0}):
            self.assertFalse(judged(wrong), wrong)
        # While c has its old way it loses packets; those of the source do not come to it.
        self.assertTrue(judged({"a": 0, "b": 0}, (), ("c",)))
        self.assertFalse(judged({"a": 0, "b": 0, "c": 0}, (), ("c",)))
        self.assertFalse(judged({"a": 0, "b": 0, "c": 0}, (), ()))
        for paper in ({"a": 0, "b": 0}, {"a": 0, "b": 0, "c": 0}):
            self.assertFalse(judged(paper, (), ("b",)))

    def test_papers_for_posts(self):
        def judged(paper):
            return self.paper(triangle(), ("b",), ("c",), "posts", paper)

        # a leads to b, b to the goal; c, which is not reached, leads to b and the goal.
        self.assertTrue(judged({"a": 0, "b": 1}))
        self.assertTrue(judged({"a": 0, "b": 1, "c": 1}))
        self.assertTrue(judged({"a": 0, "b": 1, "c": 4}))
        for wrong in ({"a": 1, "b": 1}, {"a": 0, "b": 0}, {"a": 0, "b": 2}, {"a": 0}, {"b": 1}, {}, {"a": 0, "b": 1, "c": 0},
                      {"a": 0, "b": True}, {"a": False, "b": 1}, {"a": -1, "b": 1}, {"a": 0, "b": 1, "g": 1}):
            self.assertFalse(judged(wrong), wrong)
        self.assertTrue(self.paper(triangle(), (), (), "posts", {"a": 0, "b": 1, "c": 1}))
        self.assertFalse(self.paper(triangle(), (), (), "posts", {"a": 0, "b": 1, "c": 2}))
        for paper in ({"a": 0, "b": 1, "c": 1}, {"a": 0, "b": 0, "c": 0}, {"a": 0, "b": 1, "c": 0}):
            self.assertFalse(self.paper(triangle(), (), ("a",), "posts", paper))

    def test_papers_for_two_posts(self):
        def judged(posts, *numbers):
            return self.paper(still(posts), (), (), "posts", dict(zip("abc", numbers)))

        self.assertTrue(judged(["a", "c"], 1, 1, 2))
        for wrong in ((0, 0, 2), (0, 0, 0), (1, 0, 2), (1, 2, 2), (1, 1, 1), (1, 1, 3), (2, 1, 2), (2, 2, 2)):
            self.assertFalse(judged(["a", "c"], *wrong), wrong)
        self.assertTrue(judged(["a", "b"], 1, 2, 2))
        self.assertFalse(judged(["a", "b"], 1, 2, 3))
        self.assertFalse(judged(["a", "b"], 2, 2, 2))
        self.assertTrue(judged(["b", "c"], 0, 1, 2))
        self.assertTrue(judged(["c"], 0, 0, 1))
        self.assertTrue(judged([], 0, 0, 0))
        self.assertFalse(judged([], 1, 0, 0))
        self.assertFalse(judged([], 0, 1, 0))
        for numbers in ((0, 0, 0), (0, 1, 1), (0, 1, 2), (1, 1, 1), (2, 2, 2), (1, 2, 2)):
            self.assertFalse(judged(["b", "a"], *numbers))

    def test_a_paper_for_each_goal(self):
        net = Net(crossed().tables, ["a"], ["a"])
        first, second = {"a": 1, "b": 0}, {"a": 0, "b": 1}
        for papers, wanted in (({"g": first, "h": second}, True), ({"h": second, "g": first}, True),
                               ({"g": second, "h": first}, False), ({"g": first}, False), ({"h": second}, False),
                               ({"g": first, "h": first}, False), ({"g": first, "h": second, "i": first}, False),
                               ({"g": first, "h": second, "a": first}, False), ({"g": first, None: second}, False),
                               ({}, False), ([("g", first), ("h", second)], False), ([first, second], False)):
            self.assertIs(self.judged(net, (), (), "rings", ("kept", papers)), wanted)

    def test_moments(self):
        def judged(goal, changed, node, wish="rings", lot=("b", "c"), done=()):
            return self.judged(triangle(), done, lot, wish, ("broken", (goal, changed, node)))

        for node in "abc":
            self.assertTrue(judged("g", ("c",), node))
            self.assertFalse(judged("g", (), node))
            self.assertFalse(judged("g", ("b", "c"), node))
        self.assertTrue(judged("g", ("c",), "a", "home"))
        self.assertFalse(judged("g", ("c",), "b", "home"))
        self.assertTrue(judged("g", (), "b", done=("c",), lot=("b",)))
        self.assertFalse(judged("g", ("c",), "b", done=("c",), lot=("b",)))
        self.assertFalse(judged("g", ("a", "c"), "b"))
        self.assertTrue(judged("g", ("a", "c"), "b", lot=("a", "c")))
        for goal in ("h", "a", None, ("g",), ["g"], 1):
            self.assertFalse(judged(goal, ("c",), "b"))
        for node in ("d", "g", None, ("b",), ["b"], 1, ""):
            self.assertFalse(judged("g", ("c",), node))
        for changed in (["c"], "c", ("c", "c"), ("c", "b"), {"c": 1}, None, ("d",), [("c",)], (("c",),), ("a",), (None,)):
            self.assertFalse(judged("g", changed, "b"))

    def test_moments_that_break_other_wishes(self):
        def judged(net, lot, wish, changed, node="a"):
            return self.judged(net, (), lot, wish, ("broken", ("g", changed, node)))

        self.assertTrue(judged(losing(), ("b", "c"), "lost", ("b",)))
        self.assertFalse(judged(losing(), ("b", "c"), "lost", ("b", "c")))
        self.assertFalse(judged(losing(), ("b", "c"), "lost", ("b",), "b"))
        self.assertFalse(judged(losing(), ("b", "c"), "posts", ("b",)))
        self.assertFalse(judged(losing(), ("b", "c"), "rings", ("b",)))
        self.assertTrue(judged(triangle(), ("a",), "posts", ("a",)))
        self.assertFalse(judged(triangle(), ("a",), "posts", ()))
        self.assertFalse(judged(triangle(), ("a",), "posts", ("a",), "c"))
        self.assertFalse(judged(triangle(), ("a",), "lost", ("a",)))
        self.assertFalse(judged(triangle(), ("a", "c"), "posts", ("c",)))
        self.assertTrue(judged(still(["c", "b"]), (), "posts", ()))
        self.assertFalse(judged(still(["b", "c"]), (), "posts", ()))

    def test_only_one_of_both_kinds(self):
        net = triangle()
        self.assertFalse(is_shown(net, (), ("c",), "rings", ("kept", {"g": {"a": 2, "b": 1, "c": 0}})))
        self.assertFalse(is_shown(net, (), ("a",), "rings", ("broken", ("g", ("a",), "a"))))
        self.assertTrue(is_shown(net, (), ("c",), "lost", ("kept", {"g": {"a": 0, "b": 0, "c": 0}})))
        self.assertFalse(is_shown(net, (), ("c",), "lost", ("broken", ("g", ("c",), "a"))))

    def test_any_value_may_be_judged(self):
        good, bad = {"a": 2, "b": 1, "c": 0}, ("g", ("c",), "a")
        for net, lot in ((triangle(), ("a",)), (triangle(), ("c",))):
            for value in any_values() + ["kept", "broken", ["kept", {"g": good}], ["broken", bad], ("kept",), ("broken",),
                                         ("kept", {"g": good}, None), ("broken", bad, None), ("kept", bad),
                                         ("broken", {"g": good}), ("broken", list(bad)), ("broken", *bad),
                                         ("Kept", {"g": good}), ({"g": good}, "kept"), (("kept",), {"g": good}),
                                         ("kept", [{"g": good}]), {"kept": {"g": good}}, ("broken", bad[:2]),
                                         ("broken", (*bad, "a")), ("kept", nested({"g": good}, 3))]:
                for thing in (value, ("kept", value), ("broken", value), (value, {"g": good}), (value, bad),
                              ("kept", {"g": value}), ("broken", (value, ("c",), "a")), ("broken", ("g", value, "b"))):
                    for wish in WISHES:
                        if thing not in (("kept", {"g": {}}), ("kept", {"g": good}), ("broken", bad)):
                            self.assertFalse(self.judged(net, (), lot, wish, thing), thing)
                if value not in ("a", "b"):
                    self.assertFalse(self.judged(net, (), lot, "rings", ("broken", ("g", ("c",), value))))
                if value not in (2, 10 ** 999):
                    self.assertFalse(self.judged(net, (), ("a",), "rings", ("kept", {"g": {"a": value, "b": 1, "c": 0}})))
                    self.assertFalse(self.judged(net, (), ("a",), "rings", ("kept", {"g": {**good, "d": value}})))

    def test_wishes_are_texts(self):
        wrong = any_values() + ["ring", "Home", "home ", ["home"], ("rings",), {"home": 1}, "homelost"]
        for value in wrong:
            with self.assertRaises(BadWish):
                shown(triangle(), (), ("a",), value)
            for thing in (None, ("kept", {"g": {"a": 2, "b": 1, "c": 0}})):
                with self.assertRaises(BadWish):
                    is_shown(triangle(), (), ("a",), value, thing)

    def test_errors_apply_in_the_order_of_the_parameters(self):
        for function, rest in ((keeps, [None]), (first_broken, [None]), (shown, [None]), (is_shown, [None, None])):
            with self.assertRaises(BadNet):
                function(None, None, None, *rest)
            with self.assertRaises(BadLot) as caught:
                function(triangle(), ["a"], ["b"], *rest)
            self.assertEqual(caught.exception.part, "done")
            for lot in (["b"], ("a",), ("a", "b"), ("c", "b"), ("d",), None):
                with self.assertRaises(BadLot) as caught:
                    function(triangle(), ("a",), lot, *rest)
                self.assertEqual(caught.exception.part, "lot")


if __name__ == "__main__":
    unittest.main()
