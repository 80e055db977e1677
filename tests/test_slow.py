import unittest

from plain_plans import breaks
from plain_plans import is_hops_paper as is_plain_paper
from plain_plans import is_slow as is_plain_slow
from roundways.errors import BadNet, BadPlan, BadWishes, NoGoal, NoNode
from roundways.nets import Net
from roundways.plans import is_plan
from roundways.slow import hops_paper, is_hops_paper, is_slow, most_hops, slow_fault, slow_twice
from values import any_values, chain, closing, crossed, double, losing, other_net, pair, refusal, still, triangle

ALL = ["home", "lost", "posts", "rings"]
PLAN = [("a",), ("b",)]


def round_about():
    """While b and c change, packets of a can go around between the two."""
    old = {"a": "b", "b": "c", "c": "g"}
    new = {"a": "b", "b": "g", "c": "b"}
    return Net({"g": (old, new)}, ["a"])


class IsSlowTest(unittest.TestCase):
    def judged(self, net, plan, goal, wanted, *packets):
        for packet in packets:
            for thing in (packet, tuple(packet)):
                self.assertIs(is_slow(net, plan, goal, thing), wanted, packet)
                self.assertIs(is_plain_slow(net, plan, goal, thing), wanted)

    def test_one_pair(self):
        self.judged(pair(), PLAN, "g", True, [(0, "a")], [(1, "a")], [(2, "b")])
        self.judged(pair(), PLAN, "g", False, [], [(3, "a")], [(-1, "a")], [(0, "g")], [(0, None)], [(0, "c")], [(2, "g")])
        self.judged(pair(), [], "g", True, [(0, "b")])
        self.judged(pair(), [], "g", False, [(1, "b")])

    def test_ways_of_the_stages(self):
        self.judged(pair(), PLAN, "g", True, [(0, "a"), (0, "b"), (0, "g")], [(0, "a"), (0, "g")], [(1, "a"), (1, "g")],
                    [(1, "b"), (1, "a"), (1, "g")], [(2, "b"), (2, "a"), (2, "g")], [(1, "b"), (1, "g")])
        self.judged(pair(), PLAN, "g", False, [(0, "b"), (0, "a")], [(1, "a"), (1, "b")], [(2, "b"), (2, "g")],
                    [(0, "a"), (0, "a")], [(0, "a"), (1, "a")], [(0, "a"), (0, None)])

    def test_packets_that_wait(self):
        self.judged(pair(), PLAN, "g", True, [(0, "a"), (0, "b"), (1, "a")], [(0, "a"), (0, "b"), (1, "a"), (2, "g")],
                    [(0, "a"), (0, "b"), (2, "a"), (2, "g")], [(0, "a"), (2, "g")], [(0, "b"), (1, "g")])
        self.judged(pair(), PLAN, "g", False, [(0, "a"), (1, "b")], [(0, "b"), (2, "g")], [(1, "a"), (0, "b")],
                    [(1, "b"), (1, "a"), (0, "g")], [(2, "b"), (1, "a")])

    def test_goals_and_none_are_last(self):
        self.judged(pair(), PLAN, "g", False, [(0, "a"), (0, "g"), (0, "g")], [(0, "b"), (0, "g"), (0, "a")],
                    [(0, "b"), (0, "g"), (1, "g")])
        self.judged(losing(), [("b",), ("c",)], "g", True, [(0, "c"), (0, None)], [(0, "b"), (0, "c"), (1, None)],
                    [(0, "a"), (0, "b"), (0, "c"), (1, "g")])
        self.judged(losing(), [("b",), ("c",)], "g", False, [(0, "c"), (2, None)], [(0, "c"), (0, None), (0, None)],
                    [(0, "c"), (0, None), (1, "g")], [(0, "c"), (0, "g")])

    def test_a_node_of_the_round_that_was_left_by_its_new_way(self):
        plan = [("a", "b")]
        self.judged(pair(), plan, "g", True, [(0, "a"), (0, "b"), (0, "a"), (0, "b"), (0, "a"), (0, "g")],
                    [(0, "b"), (0, "a"), (0, "b"), (0, "a")], [(0, "a"), (0, "b"), (0, "g")], [(0, "b"), (0, "a"), (1, "g")])
        self.judged(pair(), plan, "g", False, [(0, "b"), (0, "a"), (0, "b"), (0, "g")],
                    [(0, "a"), (0, "b"), (0, "a"), (0, "b"), (0, "g")], [(0, "b"), (0, "a"), (0, "b"), (1, "g")])
        # A node that another stage's round has is bound by its one way there, not by what it did before.
        net = round_about()
        self.judged(net, [("c",), ("b",)], "g", True, [(0, "c"), (0, "b"), (0, "c"), (0, "b"), (1, "g")],
                    [(0, "b"), (0, "c"), (0, "g")], [(0, "c"), (0, "b"), (1, "c"), (1, "b"), (1, "g")],
                    [(0, "c"), (0, "b"), (1, "c"), (1, "b"), (1, "c"), (1, "b"), (2, "g")])
        self.judged(net, [("c",), ("b",)], "g", False, [(0, "c"), (0, "b"), (0, "c"), (0, "g")],
                    [(0, "c"), (0, "b"), (1, "c"), (1, "g")])
        self.judged(net, [("b", "c")], "g", True, [(0, "b"), (0, "c"), (0, "b"), (0, "c"), (0, "b"), (0, "g")])
        self.judged(net, [("b", "c")], "g", False, [(0, "b"), (0, "c"), (0, "b"), (0, "c"), (0, "g")],
                    [(0, "c"), (0, "b"), (0, "c"), (0, "b"), (0, "c"), (0, "g")])

    def test_two_goals(self):
        plan = [("a",), ("b",)]
        self.judged(crossed(), plan, "g", True, [(0, "a"), (0, "b"), (1, "a"), (1, "g")])
        self.judged(crossed(), plan, "h", True, [(0, "b"), (0, "a"), (0, "b"), (0, "a"), (1, "b"), (1, "h")])
        self.judged(crossed(), plan, "h", False, [(0, "a"), (0, "g")], [(0, "b"), (0, "a"), (0, "b"), (0, "a"), (0, "h")])
        self.judged(double(), [("c",)], "h", True, [(0, "d"), (1, None)], [(0, "a"), (0, "d"), (0, None)])

    def test_any_value_is_judged(self):
        good = [(0, "a"), (0, "b"), (1, "a")]
        self.assertIs(is_slow(pair(), PLAN, "g", good), True)
        self.assertIs(is_slow(pair(), PLAN, "g", good[0]), False)
        for value in any_values() + [{0: good[0]}, [good], [list(pair) for pair in good], "ab", {(0, "a"): 1}]:
            self.assertIs(is_slow(pair(), PLAN, "g", value), False)
            self.assertIs(is_slow(pair(), PLAN, "g", [value]), False)
            self.assertIs(is_slow(pair(), PLAN, "g", [*good, value]), False)
            self.assertIs(is_slow(pair(), PLAN, "g", [good[0], value, good[2]]), False)
            if type(value) is not int or not 0 <= value < 3:
                self.assertIs(is_slow(pair(), PLAN, "g", [(value, "a")]), False)
                self.assertIs(is_slow(pair(), PLAN, "g", [*good, (value, "g")]), False)
            self.assertIs(is_slow(pair(), PLAN, "g", [(0, value)]), False)
            self.assertIs(is_slow(pair(), PLAN, "g", [*good, (1, value)]), False)
        for wrong in ((False, "a"), [0, "a"], (0, "a", 1), (0,), (), "0a", (0, ["a"]), (0, ("a",)), ("0", "a"), ("a", 0)):
            self.assertIs(is_slow(pair(), PLAN, "g", [wrong]), False)
        self.assertIs(is_slow(pair(), PLAN, "g", [(0, "a"), (False, "b")]), False)
        self.assertIs(is_slow(pair(), PLAN, "g", [(0, "a"), (True, "g")]), False)


class HopsTest(unittest.TestCase):
    def most(self, net, plan, goal, wanted):
        """The greatest numbers of hops from the nodes; the papers show them."""
        for node, hops in wanted.items():
            found = most_hops(net, plan, goal, node)
            self.assertEqual(found, hops, node)
            self.assertIn(type(found), (int, type(None)))
            paper = hops_paper(net, plan, goal, node)
            self.assertEqual(paper[0], "ever" if hops is None else "most")
            self.assertTrue(is_plain_paper(net, plan, goal, node, paper), paper)
            self.assertIs(is_hops_paper(net, plan, goal, node, paper), True)
            for other in net.nodes:
                if other != node:
                    self.assertIs(is_hops_paper(net, plan, goal, other, paper),
                                  is_plain_paper(net, plan, goal, other, paper))

    def test_the_pair(self):
        self.most(pair(), PLAN, "g", {"a": 3, "b": 2})
        self.most(pair(), [("a",)], "g", {"a": 2, "b": 1})
        self.most(pair(), [("b",), ("a",)], "g", {"a": None, "b": None})
        self.most(pair(), [("a", "b")], "g", {"a": None, "b": None})
        self.most(pair(), [("b",)], "g", {"a": None, "b": None})

    def test_the_plan_without_rounds(self):
        self.most(pair(), [], "g", {"a": 2, "b": 1})
        self.most(chain(), [], "goal", {"a": 6, "b": 5, "f": 1})
        self.most(closing().turned(), (), "g", {"a": None, "b": None, "c": None})

    def test_who_is_lost_comes_to_no_place(self):
        self.most(losing(), [], "g", {"a": 2, "b": 1, "c": 0})
        self.most(losing(), [("b",)], "g", {"a": 2, "b": 1, "c": 0})
        self.most(losing(), [("b",), ("c",)], "g", {"a": 3, "b": 2, "c": 1})
        self.most(double(), [], "h", {"d": 0, "a": 1, "b": 1, "c": 2})

    def test_long_plans(self):
        # Each node hands packets back to a, which goes the long way while it is told last.
        plan = [(node,) for node in "fedcb"]
        self.most(chain(), [*plan, ("a",)], "goal", {"a": None})
        self.most(chain(), [("a",), *plan[::-1]], "goal", {"a": 7, "f": 2, "b": 6})
        self.most(chain(), [("a",), ("b", "c", "d", "e", "f")], "goal", {"a": 7, "f": 2, "b": 6})

    def test_a_ring_in_one_stage_only(self):
        self.most(closing(), [("a",), ("b",), ("c",)], "g", {"a": None, "b": None, "c": None})
        self.most(closing(), [("a",), ("b",)], "g", {"a": 3, "b": 2, "c": 1})
        self.most(round_about(), [("c",), ("b",)], "g", {"a": None, "b": None, "c": None})
        self.most(round_about(), [("b",), ("c",)], "g", {"a": 4, "b": 3, "c": 2})

    def test_a_ring_that_cannot_be_reached(self):
        old = {"a": "g", "b": "c", "c": "g"}
        new = {"a": "g", "b": "g", "c": "b"}
        net = Net({"g": (old, new)})
        self.most(net, [("b", "c")], "g", {"a": 1, "b": None, "c": None})

    def test_a_ring_that_is_nearer_in_a_later_stage(self):
        # From d the ring is one hop away, but only when d has changed; until then it is two hops away.
        old = {"a": "b", "b": "a", "c": "g", "d": "e", "e": "a", "f": "g"}
        new = {"a": "b", "b": "g", "c": None, "d": "a", "e": "a", "f": "d"}
        net = Net({"g": (old, new)})
        self.most(net, [("c",), ("b",), ("d",)], "g", {"a": None, "b": None, "c": 1, "d": None, "e": None, "f": 1})
        self.most(net, [("c",), ("b", "d")], "g", {"d": None, "e": None})
        self.most(net, [("b", "f"), ("d",)], "g", {"d": None, "f": None})
        self.most(net, [("c", "f")], "g", {"d": None, "f": None, "c": 1})

    def test_the_height_of_who_waits(self):
        paper = hops_paper(pair(), PLAN, "g", "a")
        self.assertEqual(max(paper[1].values()), 3)
        least = {(0, "a"): 0, (0, "b"): 1, (0, "g"): 2, (1, "a"): 2, (1, "b"): 1, (1, "g"): 3, (2, "a"): 2, (2, "b"): 1,
                 (2, "g"): 3}
        for pair_of, number in least.items():
            self.assertGreaterEqual(paper[1][pair_of], number)
        self.assertEqual(list(paper[1]), sorted(paper[1]))


class PapersTest(unittest.TestCase):
    net, goal, node = pair(), "g", "a"
    heights = {(0, "a"): 0, (0, "b"): 1, (0, "g"): 2, (1, "a"): 2, (1, "b"): 1, (1, "g"): 3, (2, "a"): 2, (2, "b"): 1, (2, "g"): 3}
    packet = [(0, "a"), (0, "b"), (1, "a"), (1, "g")]

    def judged(self, thing, wanted, plan=PLAN, node="a"):
        self.assertIs(is_hops_paper(self.net, plan, "g", node, thing), wanted, thing)
        self.assertIs(is_plain_paper(self.net, plan, "g", node, thing), wanted)

    def most(self, changes, wanted, packet=None):
        heights = {**self.heights, **changes}
        heights = {key: value for key, value in heights.items() if value is not ...}
        self.judged(("most", heights, packet or self.packet), wanted)

    def test_heights(self):
        self.most({}, True)
        self.judged(("most", dict(reversed(self.heights.items())), tuple(self.packet)), True)
        self.judged(("most", self.heights, [(0, "a"), (0, "b"), (2, "a"), (2, "g")]), True)

    def test_heights_that_are_greater_than_they_need_be(self):
        self.most({(1, "b"): 1, (2, "b"): 1}, True)
        self.most({(0, "g"): 3}, True)
        self.most({(1, "b"): 2, (1, "a"): 3, (1, "g"): 4}, False)
        self.most({(2, "g"): 4}, False)
        self.most({(2, "b"): 2}, False)
        self.most({(1, "g"): 4, (2, "g"): 4}, False)

    def test_heights_that_are_too_small(self):
        for key in self.heights:
            if self.heights[key]:
                self.most({key: self.heights[key] - 1}, False)
        self.most({(2, "b"): 0}, False)
        self.most({(1, "g"): 2, (2, "g"): 2}, False)

    def test_each_pair_is_needed(self):
        for key in self.heights:
            self.most({key: ...}, False)

    def test_further_pairs(self):
        heights = {(0, "b"): 0, (0, "g"): 1, (1, "a"): 1, (1, "b"): 0, (1, "g"): 2, (2, "a"): 1, (2, "b"): 0, (2, "g"): 2}
        packet = [(0, "b"), (1, "a"), (1, "g")]
        self.judged(("most", heights, packet), True, node="b")
        self.judged(("most", {**heights, (0, "a"): 0}, packet), False, node="b")
        packet = [(0, "a"), (0, "b"), (1, "a"), (1, "g")]
        self.judged(("most", self.heights, packet[1:]), False, node="b")
        self.judged(("most", {(2, "b"): 0, (2, "a"): 1, (2, "g"): 2, (1, "g"): 1, **heights}, [(0, "b"), (1, "a"), (2, "g")]),
                    True, node="b")
        small = {(0, "b"): 0, (0, "g"): 1, (1, "b"): 0, (1, "g"): 1}
        self.judged(("most", small, [(0, "b"), (1, "g")]), True, [("a",)], "b")
        self.judged(("most", {**small, (1, "a"): 0}, [(0, "b"), (1, "g")]), True, [("a",)], "b")
        self.judged(("most", {**small, (1, "a"): 1}, [(0, "b"), (1, "g")]), False, [("a",)], "b")
        for key in ((2, "b"), (-1, "g"), (0, None), (1, None), (1, "c"), (True, "a"), (0, ("g",)), "0g", (0,), (0, "g", 1), 0, None, ((0, "g"),)):
            self.judged(("most", {**small, key: 1}, [(0, "b"), (1, "g")]), False, [("a",)], "b")

    def test_numbers_are_counts(self):
        for wrong in (True, False, -1, None, "1", (1,), [1], {}, 1 - 10 ** 999):
            self.most({(0, "b"): wrong}, False)
            self.most({(0, "a"): wrong}, False)
        self.judged(("most", {key: value for key, value in self.heights.items() if key != (0, "a")} | {(False, "a"): 0},
                     self.packet), False)

    def test_the_packet_of_heights(self):
        for packet in ([], [(0, "a")], self.packet[:-1], self.packet[1:], [(0, "a"), (0, "g")], self.packet[::-1], None,
                       [(0, "a"), (0, "b"), (0, "a"), (0, "g")], {}, "abag", [*self.packet, (2, "g")], [list(p) for p in self.packet]):
            self.judged(("most", self.heights, packet), False)

    def test_rings(self):
        plan = [("a", "b")]
        self.judged(("ever", [(0, "a")], ["a", "b"]), True, plan)
        self.judged(("ever", [(0, "a"), (0, "b")], ["b", "a"]), True, plan)
        self.judged(("ever", ((0, "a"), (0, "b")), ("b", "a")), True, plan)
        self.judged(("ever", [(0, "b"), (0, "a")], ["a", "b"]), True, plan, "b")
        # The ring is told from the packet's last place on.
        self.judged(("ever", [(0, "a")], ["b", "a"]), False, plan)
        self.judged(("ever", [(0, "a"), (0, "b")], ["a", "b"]), False, plan)
        for packet, ring in (([(0, "b")], ["b", "a"]), ([(1, "a")], ["a", "b"]), ([(0, "a")], ["a"]), ([(0, "a")], []),
                             ([(0, "a")], ["a", "b", "a", "b"]), ([(0, "a"), (0, "g")], ["g"]), ([(0, "a")], ["a", "g"]),
                             ([], ["a", "b"]), ([(0, "a"), (1, "g")], ["a", "b"]), ([(0, "a")], "ab"), ([(0, "a")], {"a": 1, "b": 2}),
                             ([(0, "a")], ["a", None]), ([(0, "a")], [["a"], "b"]), (None, ["a", "b"]), ("a", ["a", "b"])):
            self.judged(("ever", packet, ring), False, plan)
        self.judged(("ever", [(0, "a")], ["a", "b"]), False)
        self.judged(("ever", [(0, "a")], ["a", "b"]), False, [])

    def test_the_ring_is_one_of_the_stage_of_the_last_pair(self):
        net, plan = round_about(), [("c",), ("b",)]
        for packet, ring, wanted in (([(0, "c")], ["c", "b"], True), ([(1, "c")], ["c", "b"], True),
                                     ([(2, "c")], ["c", "b"], False), ([(0, "c"), (2, "b")], ["b", "c"], False),
                                     ([(0, "c"), (0, "b")], ["b", "c"], True), ([(0, "c"), (1, "b")], ["b", "c"], True)):
            thing = ("ever", packet, ring)
            self.assertIs(is_hops_paper(net, plan, "g", "c", thing), wanted, thing)
            self.assertIs(is_plain_paper(net, plan, "g", "c", thing), wanted)

    def test_any_value_is_judged(self):
        good, ever = ("most", self.heights, self.packet), ("ever", [(0, "a")], ["a", "b"])
        plan = [("a", "b")]
        self.judged(good, True)
        self.judged(ever, True, plan)
        for value in any_values() + [list(good), good[:2], (*good, 1), ("ever", self.heights, self.packet),
                                     ("never", self.heights, self.packet), (["most"], *good[1:]), ("Most", *good[1:]), (*good[::-1],)]:
            self.judged(value, False)
            for at in range(3):
                self.assertIs(is_hops_paper(self.net, PLAN, "g", "a", (*good[:at], value, *good[at + 1:])), False)
                self.assertIs(is_hops_paper(self.net, plan, "g", "a", (*ever[:at], value, *ever[at + 1:])), False)
        for value in (list(ever), ever[:2], (*ever, 1), ("most", *ever[1:])):
            self.judged(value, False, plan)


class FaultsTest(unittest.TestCase):
    def twice(self, net, plan, goal, node, wanted):
        """A packet that comes to a node a second time with so many hops, None if there is none."""
        found = slow_twice(net, plan, goal, node)
        if wanted is None:
            self.assertIsNone(found)
        else:
            self.assertIs(type(found), list)
            self.assertTrue(is_plain_slow(net, plan, goal, found), found)
            places = [place for _, place in found]
            self.assertEqual((places[0], len(places) - 1), (node, wanted))
            self.assertIn(places[-1], places[:-1])
        self.assertEqual(slow_fault(net, ["rings"], plan, goal, node) is None, wanted is None)
        self.assertEqual(slow_fault(net, ["home"], plan, goal, node) is None, wanted is None)

    def test_who_waits_comes_again(self):
        self.assertIs(is_plan(pair(), ["rings"], PLAN), True)
        self.twice(pair(), PLAN, "g", "a", 2)
        self.twice(pair(), PLAN, "g", "b", None)
        self.assertIn(slow_twice(pair(), PLAN, "g", "a"), [[(0, "a"), (0, "b"), (stage, "a")] for stage in (1, 2)])
        self.twice(pair(), [("a",)], "g", "a", None)
        self.twice(pair(), [], "g", "a", None)
        self.twice(pair(), [("b",), ("a",)], "g", "b", 2)
        self.twice(closing(), [("a",), ("b",), ("c",)], "g", "b", 3)
        self.twice(closing(), [("a",), ("b",)], "g", "b", None)
        self.twice(chain(), [("a",), ("b", "c", "d", "e", "f")], "goal", "a", 2)
        self.twice(chain(), [("a",), ("b",), ("c",), ("d",), ("e",), ("f",)], "goal", "f", None)
        self.twice(round_about(), [("b",), ("c",)], "g", "a", 3)
        self.twice(crossed(), [("a",), ("b",)], "h", "a", 2)

    def fault(self, net, wishes, plan, goal, node, wanted):
        found = slow_fault(net, wishes, plan, goal, node)
        if wanted is None:
            self.assertIsNone(found)
        else:
            self.assertEqual((type(found), len(found), found[0]), (tuple, 2, wanted))
            self.assertTrue(is_plain_slow(net, plan, goal, found[1]))
            self.assertEqual(found[1][0][1], node)
            self.assertTrue(breaks(net, wanted, goal, found[1]), found)

    def test_no_wish_one_and_all(self):
        for net in (pair(), losing(), triangle()):
            for plan in ([], [net.changing]):
                for node in net.nodes:
                    self.fault(net, [], plan, "g", node, None)
        self.fault(pair(), ["rings"], PLAN, "g", "a", "rings")
        self.fault(pair(), ALL[::-1], PLAN, "g", "a", "home")
        self.fault(pair(), ["rings", "lost"], PLAN, "g", "a", "rings")
        self.fault(pair(), ["lost", "posts"], PLAN, "g", "a", None)
        self.fault(pair(), ALL, PLAN, "g", "b", None)

    def test_lost_packets(self):
        self.fault(losing(), ["lost"], [("b",), ("c",)], "g", "a", "lost")
        self.fault(losing(), ["lost"], [("c",), ("b",)], "g", "a", None)
        self.fault(losing(), ALL, [("c",), ("b",)], "g", "c", "lost")
        self.fault(losing(), ALL, [("c",)], "g", "b", None)
        self.fault(double(), ["rings", "lost"], [], "h", "d", "lost")
        self.fault(double(), ["lost"], [("b",)], "h", "b", "lost")

    def test_posts(self):
        self.fault(triangle(), ["posts"], [("a",)], "g", "a", "posts")
        self.fault(triangle(), ["posts"], [("b",), ("c",), ("a",)], "g", "a", None)
        self.fault(triangle(), ["posts"], [("b",), ("c",), ("a",)], "g", "c", "posts")
        self.fault(triangle(), ["posts"], [("a", "b", "c")], "g", "a", "posts")
        self.fault(triangle(), ["posts"], [("b",)], "g", "a", None)
        # Packets of nodes that are no sources break the wishes as well.
        self.fault(triangle(), ["posts"], [], "g", "c", "posts")
        self.fault(triangle(), ["posts"], [], "g", "b", None)
        for posts, wanted in (((), None), (("c",), None), (("a", "c"), None), (("c", "a"), "posts"), (("c", "b"), "posts")):
            self.fault(still(posts), ["posts"], [], "g", "a", wanted)
        self.fault(still(["a", "b"]), ["posts"], [], "g", "b", "posts")


class ErrorsTest(unittest.TestCase):
    def test_the_first_wrong_one_is_told(self):
        net = other_net()
        for function, more in ((most_hops, ()), (slow_twice, ()), (hops_paper, ()), (is_hops_paper, (None,))):
            refusal(self, BadNet, "net", function, None, None, None, None, *more)
            refusal(self, BadPlan, None, function, net, None, None, None, *more)
            refusal(self, BadPlan, 1, function, net, [("y",), ("y",)], None, None, *more)
            refusal(self, NoGoal, None, function, net, [("y",)], None, None, *more)
            refusal(self, NoNode, None, function, net, [], "z", None, *more)
            refusal(self, NoNode, "z", function, net, [], "z", "z", *more)
        refusal(self, BadNet, "net", slow_fault, net.tables, None, None, None, None)
        refusal(self, BadWishes, ..., slow_fault, net, ["ring"], None, None, None)
        refusal(self, BadPlan, 0, slow_fault, net, [], ["y"], None, None)
        refusal(self, NoGoal, "y", slow_fault, net, [], [], "y", None)
        refusal(self, NoNode, ["y"], slow_fault, net, [], [], "z", ["y"])
        refusal(self, BadNet, "net", is_slow, None, None, None, None)
        refusal(self, BadPlan, 0, is_slow, net, [()], None, None)
        refusal(self, NoGoal, None, is_slow, net, [], None, None)

    def test_plans(self):
        for value in any_values():
            if value not in ([], (), (("a",),)):
                at = 0 if isinstance(value, (list, tuple)) else None
                refusal(self, BadPlan, at, is_slow, triangle(), value, "g", [])
                refusal(self, BadPlan, at, most_hops, triangle(), value, "g", "a")
            refusal(self, BadPlan, 1, slow_twice, triangle(), [("b",), value], "g", "a")
            refusal(self, BadPlan, 1, hops_paper, triangle(), (("b",), value), "g", "a")
        for plan, at in (([("a",), ("b", "a")], 1), ([("a",), ("a", "b")], 1), ([["a"]], 0), ([("d",)], 0), ([("a",), ()], 1)):
            refusal(self, BadPlan, at, slow_fault, triangle(), [], plan, "g", "a")
            refusal(self, BadPlan, at, is_hops_paper, triangle(), plan, "g", "a", None)

    def test_goals_and_nodes(self):
        for value in any_values() + ["a", ("g",)]:
            refusal(self, NoGoal, value, is_slow, triangle(), [], value, [])
            refusal(self, NoGoal, value, most_hops, triangle(), [], value, "a")
        for value in any_values() + ["g", ("a",)]:
            refusal(self, NoNode, value, slow_twice, triangle(), [], "g", value)
            refusal(self, NoNode, value, is_hops_paper, triangle(), [], "g", value, None)


if __name__ == "__main__":
    unittest.main()
