import unittest

from roundways.mixtures import are_ranks, is_moving, led, ranks, reached, ring, twice, ways
from roundways.nets import Net
from values import any_values, chain, double, nested, other_net, pair, triangle


def rings_of_two():
    """b leads to c or to d, both lead back; a, e and f are a longer ring that begins with a lesser node."""
    old = {"a": "e", "b": "d", "c": "b", "d": "b", "e": "f", "f": "a"}
    new = {"a": "e", "b": "c", "c": "b", "d": "b", "e": "f", "f": "a"}
    return Net({"z": (old, new)})


def forked():
    """From a one comes to b or c, from both to d, from d to e or the goal; e loses packets, f is apart."""
    old = {"a": "b", "b": "d", "c": "d", "d": "e", "e": "goal", "f": "a"}
    new = {"a": "c", "b": "d", "c": "d", "d": "goal", "e": None, "f": "a"}
    return Net({"goal": (old, new)}, ["f"])


class WaysTest(unittest.TestCase):
    def test_rounds_of_one_goal(self):
        net = triangle()
        self.assertEqual(ways(net, (), (), "g"), {"a": ["b"], "b": ["c"], "c": ["g"]})
        self.assertEqual(ways(net, (), ("a",), "g"), {"a": ["b", "c"], "b": ["c"], "c": ["g"]})
        self.assertEqual(ways(net, (), ("a", "b", "c"), "g"), {"a": ["b", "c"], "b": ["c", "g"], "c": ["g", "b"]})
        self.assertEqual(ways(net, ("b",), ("a", "c"), "g"), {"a": ["b", "c"], "b": ["g"], "c": ["g", "b"]})
        self.assertEqual(ways(net, ("a", "b"), (), "g"), {"a": ["c"], "b": ["g"], "c": ["g"]})
        self.assertEqual(ways(net, ("a", "b", "c"), (), "g"), {"a": ["c"], "b": ["g"], "c": ["b"]})

    def test_the_old_way_comes_first(self):
        self.assertEqual(ways(triangle(), (), ("c",), "g")["c"], ["g", "b"])
        self.assertEqual(ways(triangle().turned(), (), ("c",), "g")["c"], ["b", "g"])

    def test_nodes_that_change_for_one_goal_only(self):
        net, lot = double(), ("a", "b", "c")
        self.assertEqual(ways(net, (), lot, "g"), {"a": ["b", "c"], "b": ["c"], "c": ["g", None], "d": ["a"]})
        self.assertEqual(ways(net, (), lot, "h"), {"a": ["d"], "b": ["h", "a"], "c": ["b", "h"], "d": [None]})
        self.assertEqual(ways(net, ("b",), ("a",), "h"), {"a": ["d"], "b": ["a"], "c": ["b"], "d": [None]})

    def test_lost_packets(self):
        net = Net({"g": ({"a": None, "b": "g"}, {"a": "g", "b": None})})
        self.assertEqual(ways(net, (), ("a", "b"), "g"), {"a": [None, "g"], "b": ["g", None]})
        self.assertEqual(ways(net, ("b",), ("a",), "g"), {"a": [None, "g"], "b": [None]})

    def test_no_node_changes(self):
        net = Net({"g": ({"a": "g"}, {"a": "g"})})
        self.assertEqual(ways(net, (), (), "g"), {"a": ["g"]})

    def test_keys_ascend(self):
        net = Net({"g": ({"c": "g", "a": "b", "b": "g"}, {"b": "g", "c": "g", "a": "g"})})
        self.assertEqual(list(ways(net, (), ("a",), "g")), ["a", "b", "c"])


class RingTest(unittest.TestCase):
    def test_rings_of_several_lengths(self):
        net = chain()
        self.assertIsNone(ring(net, (), (), "goal"))
        for many in range(2, 7):
            nodes = tuple("abcdef"[:many])
            self.assertEqual(ring(net, (), nodes[-1:], "goal"), nodes)
            self.assertEqual(ring(net, nodes[-1:], (), "goal"), nodes)
        self.assertIsNone(ring(net, (), ("a",), "goal"))
        self.assertEqual(ring(net, (), ("a", "f"), "goal"), ("a", "b", "c", "d", "e", "f"))
        self.assertIsNone(ring(net, ("a",), ("b", "c", "d", "e", "f"), "goal"))

    def test_the_shortest_ring_goes_first(self):
        self.assertEqual(ring(chain(), (), ("b", "c", "d", "e", "f"), "goal"), ("a", "b"))
        self.assertEqual(ring(chain(), (), ("c", "d", "f"), "goal"), ("a", "b", "c"))
        self.assertEqual(ring(rings_of_two(), (), (), "z"), ("b", "d"))
        self.assertEqual(ring(rings_of_two(), ("b",), (), "z"), ("b", "c"))

    def test_then_the_least_one(self):
        self.assertEqual(ring(rings_of_two(), (), ("b",), "z"), ("b", "c"))
        self.assertEqual(ring(rings_of_two().turned(), (), ("b",), "z"), ("b", "c"))
        old = {"a": "c", "b": "a", "c": "b", "d": "a"}
        new = {"a": "d", "b": "a", "c": "d", "d": "b"}
        # With all changing nodes in the round: a to c or d, b to a, c to b or d, d to a or b.
        net = Net({"g": (old, new)})
        self.assertEqual(ring(net, (), ("a", "c", "d"), "g"), ("a", "d"))
        self.assertEqual(ring(net, (), ("a",), "g"), ("a", "d"))
        self.assertEqual(ring(net, ("d",), ("a", "c"), "g"), ("a", "c", "b"))

    def test_a_ring_begins_with_its_least_node(self):
        net = Net({"g": ({"a": "g", "b": "d", "c": "b", "d": "c"}, {"a": "d", "b": "d", "c": "b", "d": "c"})})
        self.assertEqual(ring(net, (), ("a",), "g"), ("b", "d", "c"))

    def test_two_nodes_that_lead_to_one_another(self):
        self.assertEqual(ring(pair(), (), ("b",), "g"), ("a", "b"))
        self.assertEqual(ring(pair(), (), ("a", "b"), "g"), ("a", "b"))
        self.assertIsNone(ring(pair(), (), ("a",), "g"))
        self.assertIsNone(ring(pair(), ("a",), ("b",), "g"))

    def test_each_goal_has_its_own_rings(self):
        net = Net({"g": ({"a": "b", "b": "g"}, {"a": "b", "b": "a"}), "h": ({"a": "b", "b": "h"}, {"a": "b", "b": "h"})})
        self.assertEqual(ring(net, (), ("b",), "g"), ("a", "b"))
        self.assertIsNone(ring(net, (), ("b",), "h"))


class RanksTest(unittest.TestCase):
    def test_least_ranks(self):
        self.assertEqual(ranks(triangle(), (), (), "g"), {"a": 2, "b": 1, "c": 0})
        self.assertEqual(ranks(triangle(), (), ("a",), "g"), {"a": 2, "b": 1, "c": 0})
        self.assertEqual(ranks(triangle(), ("a",), ("b",), "g"), {"a": 1, "b": 1, "c": 0})
        self.assertEqual(ranks(triangle(), ("b",), ("a", "c"), "g"), {"a": 2, "b": 0, "c": 1})
        self.assertEqual(ranks(chain(), ("a",), ("b", "c", "d", "e", "f"), "goal"),
                         {"a": 0, "b": 5, "c": 4, "d": 3, "e": 2, "f": 1})
        self.assertEqual(ranks(forked(), (), ("a", "d", "e"), "goal"), {"a": 3, "b": 2, "c": 2, "d": 1, "e": 0, "f": 4})

    def test_none_if_there_is_a_ring(self):
        self.assertIsNone(ranks(triangle(), (), ("c",), "g"))
        self.assertIsNone(ranks(pair(), (), ("a", "b"), "g"))
        self.assertIsNone(ranks(rings_of_two(), (), (), "z"))
        self.assertIsNone(ranks(chain(), ("f",), (), "goal"))

    def test_only_ways_between_nodes_count(self):
        self.assertEqual(ranks(double(), (), ("a", "b", "c"), "h"), {"a": 1, "b": 2, "c": 3, "d": 0})
        self.assertEqual(ranks(other_net(), (), ("y",), "z"), {"y": 0})

    def test_keys_ascend(self):
        self.assertEqual(list(ranks(triangle(), (), (), "g")), ["a", "b", "c"])

    def test_are_ranks(self):
        def judged(thing):
            return are_ranks(triangle(), ("a",), ("b",), "g", thing)

        self.assertIs(judged({"a": 1, "b": 1, "c": 0}), True)
        self.assertIs(judged({"c": 0, "b": 1, "a": 1}), True)
        self.assertIs(judged({"a": 7, "b": 10 ** 999, "c": 3}), True)
        self.assertIs(judged({"a": 0, "b": 1, "c": 0}), False)
        self.assertIs(judged({"a": 1, "b": 0, "c": 0}), False)
        self.assertIs(judged({"a": 1, "b": 1, "c": 1}), False)
        self.assertIs(judged({"a": 1, "b": 1, "c": -1}), False)
        self.assertIs(judged({"a": 1, "b": 1}), False)
        self.assertIs(judged({"b": 1, "c": 0}), False)
        self.assertIs(judged({"a": 1, "b": 1, "c": 0, "d": 0}), False)
        self.assertIs(judged({"a": 1, "b": 1, "c": 0, "g": 0}), False)
        self.assertIs(judged({"a": 1, "b": 1, "d": 0}), False)

    def test_true_and_false_are_no_ranks(self):
        net = other_net()
        self.assertIs(are_ranks(net, (), ("y",), "z", {"y": 0}), True)
        self.assertIs(are_ranks(net, (), ("y",), "z", {"y": 5}), True)
        self.assertIs(are_ranks(net, (), ("y",), "z", {"y": False}), False)
        self.assertIs(are_ranks(net, (), ("y",), "z", {"y": True}), False)
        self.assertIs(are_ranks(triangle(), (), (), "g", {"a": 2, "b": True, "c": 0}), False)
        self.assertIs(are_ranks(triangle(), (), (), "g", {"a": 2, "b": 1, "c": False}), False)

    def test_any_value_may_be_judged(self):
        for value in any_values() + [[("a", 1), ("b", 1), ("c", 0)], nested({"a": 1, "b": 1, "c": 0}, 1)]:
            self.assertIs(are_ranks(triangle(), ("a",), ("b",), "g", value), False)
            self.assertIs(are_ranks(triangle(), ("a",), ("b",), "g", {"a": value, "b": 5, "c": 0}), value in (1, 2, 10 ** 999)
                          and value is not True)
        for key in (None, True, 1, ("a",), "g", ""):
            self.assertIs(are_ranks(triangle(), ("a",), ("b",), "g", {key: 1, "b": 1, "c": 0}), False)

    def test_no_ranks_beside_a_ring(self):
        for first in range(3):
            for second in range(3):
                self.assertIs(are_ranks(pair(), (), ("b",), "g", {"a": first, "b": second}), False)


class LedTest(unittest.TestCase):
    def test_to_the_goal(self):
        self.assertEqual(led(triangle(), (), (), "g", "a"), ["a", "b", "c", "g"])
        self.assertEqual(led(triangle(), (), ("a",), "g", "a"), ["a", "c", "g"])
        self.assertEqual(led(triangle(), ("b",), ("a",), "g", "a"), ["a", "c", "g"])
        self.assertEqual(led(triangle(), ("a", "b"), ("c",), "g", "a"), ["a", "c", "b", "g"])
        self.assertEqual(led(triangle(), (), ("b",), "g", "b"), ["b", "g"])

    def test_to_the_first_node_that_comes_again(self):
        self.assertEqual(led(triangle(), (), ("c",), "g", "a"), ["a", "b", "c", "b"])
        self.assertEqual(led(triangle(), (), ("c",), "g", "c"), ["c", "b", "c"])
        self.assertEqual(led(pair(), (), ("b",), "g", "a"), ["a", "b", "a"])
        self.assertEqual(led(pair(), (), ("b",), "g", "b"), ["b", "a", "b"])
        self.assertEqual(led(chain(), ("f",), (), "goal", "c"), ["c", "d", "e", "f", "a", "b", "c"])
        self.assertEqual(led(chain(), (), ("c",), "goal", "c"), ["c", "a", "b", "c"])

    def test_to_none(self):
        self.assertEqual(led(double(), (), ("c",), "g", "d"), ["d", "a", "b", "c", None])
        self.assertEqual(led(double(), (), (), "h", "d"), ["d", None])
        self.assertEqual(led(double(), ("b",), (), "h", "c"), ["c", "b", "a", "d", None])
        self.assertEqual(led(forked(), ("e",), ("a",), "goal", "f"), ["f", "a", "c", "d", "e", None])

    def test_the_goal_that_is_asked_for(self):
        self.assertEqual(led(double(), (), ("a", "b", "c"), "g", "a"), ["a", "c", None])
        self.assertEqual(led(double(), (), ("a", "b", "c"), "h", "c"), ["c", "h"])
        self.assertEqual(led(double(), (), ("a",), "h", "b"), ["b", "h"])


class MovingTest(unittest.TestCase):
    def judged(self, thing, done=(), lot=("a", "b", "c"), node="a"):
        found = is_moving(triangle(), done, lot, "g", node, thing)
        self.assertIs(type(found), bool)
        return found

    def test_packets(self):
        self.assertTrue(self.judged([("a", ())]))
        self.assertTrue(self.judged([("a", ("a", "c"))]))
        self.assertTrue(self.judged([("a", ()), ("b", ()), ("c", ()), ("g", ())]))
        self.assertTrue(self.judged([("a", ()), ("b", ("a",)), ("c", ("a", "c")), ("b", ("a", "c"))]))
        self.assertTrue(self.judged([("a", ()), ("b", ("a",)), ("c", ("a", "c")), ("b", ("a", "b", "c")),
                                     ("g", ("a", "b", "c"))]))
        self.assertTrue(self.judged([("a", ("a",)), ("c", ("a", "c")), ("b", ("a", "c")), ("c", ("a", "c"))]))
        self.assertTrue(self.judged([("c", ()), ("g", ("a", "b", "c"))], node="c"))

    def test_lists_and_tuples(self):
        self.assertTrue(self.judged((("a", ()), ("b", ("a",)))))
        self.assertFalse(self.judged([["a", ()], ("b", ("a",))]))
        self.assertFalse(self.judged([("a", ()), ["b", ("a",)]]))
        self.assertFalse(self.judged([("a", []), ("b", ("a",))]))
        self.assertFalse(self.judged([("a", ()), ("b", ["a"])]))

    def test_not_empty(self):
        self.assertFalse(self.judged([]))
        self.assertFalse(self.judged(()))
        self.assertFalse(self.judged({}))

    def test_the_first_place(self):
        self.assertFalse(self.judged([("b", ()), ("c", ())]))
        self.assertTrue(self.judged([("b", ()), ("c", ())], node="b"))
        self.assertFalse(self.judged([("g", ())]))
        self.assertFalse(self.judged([(None, ())]))

    def test_ways_of_the_moment(self):
        self.assertFalse(self.judged([("a", ()), ("c", ())]))
        self.assertFalse(self.judged([("a", ()), ("c", ("a",))]))
        self.assertFalse(self.judged([("a", ("a",)), ("b", ("a",))]))
        self.assertFalse(self.judged([("a", ()), ("g", ())]))
        self.assertFalse(self.judged([("a", ()), ("a", ())]))
        self.assertFalse(self.judged([("a", ()), (None, ())]))
        self.assertFalse(self.judged([("a", ()), ("b", ()), ("g", ("b",))]))

    def test_nodes_that_are_done(self):
        self.assertTrue(self.judged([("a", ()), ("c", ("b",)), ("g", ("b",))], done=("a",), lot=("b",)))
        self.assertFalse(self.judged([("a", ()), ("b", ())], done=("a",), lot=("b",)))
        self.assertFalse(self.judged([("a", ("a",)), ("c", ("a",))], done=("a",), lot=("b",)))

    def test_moments_only_grow(self):
        self.assertFalse(self.judged([("a", ("c",)), ("b", ())]))
        self.assertFalse(self.judged([("a", ("c",)), ("b", ("a",))]))
        self.assertFalse(self.judged([("a", ()), ("b", ("c",)), ("c", ("a",))]))
        self.assertFalse(self.judged([("a", ()), ("b", ()), ("c", ("c",)), ("b", ())]))
        self.assertTrue(self.judged([("a", ("c",)), ("b", ("b", "c"))]))

    def test_moments_are_lots_of_the_round(self):
        for changed in [("b", "a"), ("a", "a"), ("g",), ("x",), (None,), "a", "", None, 0, [], {}, (("a",),), (["a"],)]:
            self.assertFalse(self.judged([("b", changed)], node="b"))
            self.assertFalse(self.judged([("b", ()), ("c", changed)], node="b"))
        self.assertFalse(self.judged([("a", ("c",))], lot=("a", "b")))
        self.assertFalse(self.judged([("a", ()), ("b", ("c",))], lot=("a", "b")))

    def test_only_the_last_place_is_no_node(self):
        self.assertFalse(self.judged([("c", ()), ("g", ()), ("g", ())], node="c"))
        self.assertFalse(self.judged([("c", ()), ("g", ()), ("a", ())], node="c"))
        net = double()
        self.assertIs(is_moving(net, (), ("c",), "g", "c", [("c", ("c",)), (None, ("c",))]), True)
        self.assertIs(is_moving(net, (), ("c",), "g", "c", [("c", ("c",)), (None, ("c",)), (None, ("c",))]), False)
        self.assertIs(is_moving(net, (), (), "h", "d", [("d", ()), ("h", ())]), False)

    def test_any_value_may_be_judged(self):
        for value in any_values():
            self.assertFalse(self.judged(value))
            self.assertFalse(self.judged([value]))
            self.assertFalse(self.judged([("a", ()), value]))
            self.assertFalse(self.judged([(value, ())]))
            self.assertFalse(self.judged([("a", ()), (value, ())]))
            self.assertFalse(self.judged([("a", ()), (value, ()), ("c", ())]))
            self.assertEqual(self.judged([("a", value)]), value == ())
            self.assertFalse(self.judged([("a", (), value)]))
            self.assertFalse(self.judged([("a",), value]))
        self.assertFalse(self.judged([("a",)]))
        self.assertFalse(self.judged([()]))
        self.assertFalse(self.judged(["a", "b"]))
        self.assertFalse(self.judged("a"))


class ReachedTest(unittest.TestCase):
    def test_nodes_and_the_goal(self):
        self.assertEqual(reached(triangle(), (), ("a",), "g", "a"), (("a", "b", "c"), True, False))
        self.assertEqual(reached(triangle(), (), ("a",), "g", "c"), (("c",), True, False))
        self.assertEqual(reached(triangle(), ("a",), (), "g", "a"), (("a", "c"), True, False))
        self.assertEqual(reached(triangle(), (), ("b",), "g", "b"), (("b", "c"), True, False))
        self.assertEqual(reached(chain(), ("f",), (), "goal", "c"), (("a", "b", "c", "d", "e", "f"), False, False))
        self.assertEqual(reached(rings_of_two(), (), (), "z", "c"), (("b", "c", "d"), False, False))

    def test_lost_packets(self):
        self.assertEqual(reached(double(), (), ("c",), "g", "a"), (("a", "b", "c"), True, True))
        self.assertEqual(reached(double(), ("c",), ("a",), "g", "a"), (("a", "b", "c"), False, True))
        self.assertEqual(reached(double(), (), (), "h", "d"), (("d",), False, True))
        self.assertEqual(reached(double(), (), (), "h", "b"), (("b",), True, False))
        self.assertEqual(reached(forked(), (), ("a", "d", "e"), "goal", "f"),
                         (("a", "b", "c", "d", "e", "f"), True, True))
        self.assertEqual(reached(forked(), ("d",), ("a", "e"), "goal", "a"), (("a", "b", "c", "d"), True, False))

    def test_kinds(self):
        found = reached(triangle(), (), ("a",), "g", "a")
        self.assertEqual([type(part) for part in found], [tuple, bool, bool])
        self.assertIs(type(found), tuple)


class TwiceTest(unittest.TestCase):
    def shortest(self, net, done, lot, goal, node, many):
        """What twice returns, a packet of so many places that comes again to its last place."""
        found = twice(net, done, lot, goal, node)
        self.assertIs(type(found), list)
        self.assertIs(is_moving(net, done, lot, goal, node, found), True)
        places = [place for place, changed in found]
        self.assertIn(places[-1], places[:-1])
        self.assertEqual(len(places), many)
        return places

    def test_none_without_a_ring_that_can_be_reached(self):
        self.assertIsNone(twice(triangle(), (), ("a", "b"), "g", "a"))
        self.assertIsNone(twice(pair(), (), ("a",), "g", "a"))
        self.assertIsNone(twice(chain(), ("a",), ("b", "c", "d", "e", "f"), "goal", "f"))
        net = Net({"g": ({"a": "g", "b": "c", "c": "b"}, {"a": "b", "b": "c", "c": "b"})})
        self.assertIsNone(twice(net, (), (), "g", "a"))
        self.assertEqual(self.shortest(net, (), ("a",), "g", "a", 4), ["a", "b", "c", "b"])

    def test_as_few_places_as_can_be(self):
        self.assertEqual(self.shortest(pair(), (), ("b",), "g", "a", 3), ["a", "b", "a"])
        self.assertEqual(self.shortest(pair(), (), ("a", "b"), "g", "b", 3), ["b", "a", "b"])
        self.assertEqual(self.shortest(triangle(), (), ("a", "c"), "g", "a", 4)[0], "a")
        self.assertEqual(self.shortest(triangle(), (), ("b", "c"), "g", "c", 3), ["c", "b", "c"])
        for node in "abcdef":
            self.shortest(chain(), ("f",), (), "goal", node, 7)
        self.assertEqual(self.shortest(chain(), (), ("b", "c", "d", "e", "f"), "goal", "f", 4), ["f", "a", "b", "a"])
        self.assertEqual(self.shortest(chain(), (), ("b", "f"), "goal", "d", 6), ["d", "e", "f", "a", "b", "a"])
        self.assertEqual(self.shortest(rings_of_two(), (), ("b",), "z", "f", 4), ["f", "a", "e", "f"])

    def test_moments_of_the_packet(self):
        self.assertEqual(twice(pair(), (), ("b",), "g", "a"), [("a", ()), ("b", ("b",)), ("a", ("b",))])
        self.assertEqual(twice(chain(), ("f",), ("b",), "goal", "b"),
                         [("b", ("b",)), ("a", ("b",)), ("b", ("b",))])

    def test_a_node_is_left_by_its_old_way_before_it_changes(self):
        # From c by the old way to a, and from there by new ways to b and back to c.
        net = Net({"g": ({"a": "g", "b": "g", "c": "a"}, {"a": "b", "b": "c", "c": "g"})})
        self.assertEqual(self.shortest(net, (), ("a", "b", "c"), "g", "c", 4), ["c", "a", "b", "c"])
        self.assertIsNone(twice(net, ("c",), ("a", "b"), "g", "c"))


if __name__ == "__main__":
    unittest.main()
