import unittest

from roundways.blockers import blockers, greatest_rounds, why_not
from roundways.errors import BadLot, BadNet, BadWishes
from roundways.nets import Net
from values import any_values, chain, closing, crossed, double, losing, pair, still, stuck, triangle


class BlockersTest(unittest.TestCase):
    def test_one_blocker(self):
        self.assertEqual(blockers(triangle(), (), ["rings"]), [("c",)])
        self.assertEqual(blockers(triangle(), (), ["posts"]), [("a",)])
        self.assertEqual(blockers(pair(), (), ["rings"]), [("b",)])
        self.assertEqual(blockers(losing(), (), ["lost"]), [("b",)])
        self.assertEqual(blockers(chain(), (), ["home"]), [("f",)])

    def test_several_blockers(self):
        self.assertEqual(blockers(triangle(), (), ["posts", "rings"]), [("a",), ("c",)])
        self.assertEqual(blockers(chain(), (), ["rings"]), [("b",), ("c",), ("d",), ("e",), ("f",)])
        self.assertEqual(blockers(crossed(), (), ["rings"]), [("a",), ("b",)])
        self.assertEqual(blockers(stuck(), (), ["rings"]), [("c",), ("d",)])

    def test_blockers_of_several_nodes(self):
        self.assertEqual(blockers(closing(), (), ["rings"]), [("a", "b", "c")])
        self.assertEqual(blockers(closing(), (), ["home"]), [("a", "b", "c")])
        self.assertEqual(blockers(closing(), ("b",), ["rings"]), [("a", "c")])
        self.assertEqual(blockers(closing(), ("a", "b"), ["rings"]), [("c",)])

    def test_by_length(self):
        # For g the new ways of b, c and d are a ring; for h the new way of a is, with the ways of d and b.
        first = ({"a": "g", "b": "g", "c": "g", "d": "g"}, {"a": "d", "b": "c", "c": "d", "d": "b"})
        table = {"a": "h", "b": "a", "c": "h", "d": "b"}
        net = Net({"g": first, "h": (table, {**table, "a": "d"})}, ["c"])
        self.assertEqual(blockers(net, (), ["rings"]), [("a",), ("b", "c", "d")])
        self.assertEqual(greatest_rounds(net, (), ["rings"]), [("b", "c"), ("b", "d"), ("c", "d")])
        # No packet of the source comes to the ring for h.
        self.assertEqual(blockers(net, (), ["home"]), [("b", "c", "d")])
        self.assertEqual(greatest_rounds(net, (), ["home"]), [("a", "b", "c"), ("a", "b", "d"), ("a", "c", "d")])
        self.assertEqual(blockers(Net({"g": first}), (), ["rings"]), [("b", "c", "d")])

    def test_without_blockers(self):
        self.assertEqual(blockers(triangle(), ("b",), ["rings"]), [])
        self.assertEqual(blockers(triangle(), (), ["lost"]), [])
        self.assertEqual(blockers(chain(), ("a",), ["rings", "home"]), [])
        self.assertEqual(blockers(triangle(), ("a", "b", "c"), ["rings", "posts"]), [])
        self.assertEqual(blockers(pair(), (), ["home", "lost", "posts"]), [])

    def test_behind_nodes_that_are_done(self):
        self.assertEqual(blockers(triangle(), ("b",), ["posts"]), [("a",)])
        self.assertEqual(blockers(triangle(), ("c",), ["posts"]), [])
        self.assertEqual(greatest_rounds(triangle(), ("b",), ["posts"]), [("c",)])
        self.assertEqual(greatest_rounds(triangle(), ("b",), ["rings"]), [("a", "c")])

    def test_what_is_broken_already(self):
        self.assertEqual(blockers(triangle(), ("c",), ["rings"]), [()])
        self.assertEqual(greatest_rounds(triangle(), ("c",), ["rings"]), [])
        self.assertEqual(blockers(double(), (), ["lost"]), [()])
        self.assertEqual(greatest_rounds(double(), ("a", "b", "c"), ["lost"]), [])
        self.assertEqual(blockers(closing(), ("a", "b", "c"), ["home"]), [()])
        self.assertEqual(why_not(triangle(), ("c",), ("a", "b"), ["rings"]), ())
        self.assertEqual(why_not(triangle(), ("c",), (), ["rings"]), ())

    def test_greatest_rounds(self):
        self.assertEqual(greatest_rounds(triangle(), (), ["rings"]), [("a", "b")])
        self.assertEqual(greatest_rounds(triangle(), (), ["posts", "rings"]), [("b",)])
        self.assertEqual(greatest_rounds(triangle(), (), ["lost"]), [("a", "b", "c")])
        self.assertEqual(greatest_rounds(pair(), (), ["rings"]), [("a",)])
        self.assertEqual(greatest_rounds(chain(), (), ["rings"]), [("a",)])
        self.assertEqual(greatest_rounds(chain(), (), ["home"]), [("a", "b", "c", "d", "e")])
        self.assertEqual(greatest_rounds(closing(), (), ["rings"]), [("a", "b"), ("a", "c"), ("b", "c")])
        self.assertEqual(greatest_rounds(closing(), ("a",), ["rings"]), [("b",), ("c",)])

    def test_greatest_rounds_by_length(self):
        first = ({"a": "g", "b": "g", "c": "g", "d": "g"}, {"a": "b", "b": "a", "c": "a", "d": "a"})
        table = {"a": "c", "b": "h", "c": "h", "d": "a"}
        net = Net({"g": first, "h": (table, {**table, "c": "d"})})
        # The ring of a and b for g, and of a, c and d for h.
        self.assertEqual(blockers(net, (), ["rings"]), [("c",), ("a", "b")])
        self.assertEqual(greatest_rounds(net, (), ["rings"]), [("a", "d"), ("b", "d")])
        second = ({"a": "h", "b": "h", "c": "h", "d": "h"}, {"a": "c", "b": "h", "c": "d", "d": "a"})
        net = Net({"g": first, "h": second})
        self.assertEqual(blockers(net, (), ["rings"]), [("a", "b"), ("a", "c", "d")])
        self.assertEqual(greatest_rounds(net, (), ["rings"]), [("a", "c"), ("a", "d"), ("b", "c", "d")])

    def test_old_ways_and_new_ones_make_rings(self):
        # The ring of a, d, c and b if b and c have their old ways, and a and d their new ones.
        net = Net({"g": ({"a": "g", "b": "a", "c": "b", "d": "g"}, {"a": "d", "b": "g", "c": "g", "d": "c"})})
        self.assertEqual(blockers(net, (), ["rings"]), [("a", "d")])
        self.assertEqual(greatest_rounds(net, (), ["rings"]), [("a", "b", "c"), ("b", "c", "d")])
        self.assertEqual(blockers(net, ("c",), ["rings"]), [])
        self.assertEqual(greatest_rounds(net, ("c",), ["rings"]), [("a", "b", "d")])
        self.assertEqual(blockers(net, ("a",), ["rings"]), [("d",)])

    def test_the_round_without_nodes(self):
        self.assertEqual(greatest_rounds(crossed(), (), ["rings"]), [()])
        self.assertEqual(greatest_rounds(triangle(), ("a", "b", "c"), ["rings", "posts"]), [()])
        self.assertEqual(greatest_rounds(still(), (), ["rings"]), [()])
        self.assertEqual(blockers(still(), (), ["rings"]), [])
        self.assertIsNone(why_not(triangle(), (), (), ["rings"]))
        self.assertIsNone(why_not(triangle(), ("a", "b", "c"), (), ["rings"]))

    def test_no_wishes(self):
        for net in (triangle(), chain(), double(), crossed(), stuck()):
            self.assertEqual(blockers(net, (), []), [])
            self.assertEqual(greatest_rounds(net, (), ()), [net.changing])
            self.assertEqual(greatest_rounds(net, net.changing, []), [()])
            self.assertEqual(greatest_rounds(net, net.changing[:1], []), [net.changing[1:]])
            self.assertIsNone(why_not(net, (), net.changing, []))

    def test_why_not(self):
        self.assertIsNone(why_not(triangle(), (), ("a", "b"), ["rings"]))
        self.assertEqual(why_not(triangle(), (), ("b", "c"), ["rings"]), ("c",))
        self.assertEqual(why_not(triangle(), (), ("a", "b", "c"), ["posts", "rings"]), ("a",))
        self.assertEqual(why_not(triangle(), (), ("b", "c"), ["posts", "rings"]), ("c",))
        self.assertIsNone(why_not(closing(), (), ("a", "c"), ["rings"]))
        self.assertEqual(why_not(closing(), (), ("a", "b", "c"), ["rings"]), ("a", "b", "c"))
        self.assertEqual(why_not(closing(), ("b",), ("a", "c"), ["rings"]), ("a", "c"))
        self.assertEqual(why_not(chain(), (), ("d", "f"), ["home", "rings"]), ("d",))

    def test_the_least_blocker_is_a_shortest_one(self):
        net = Net({"g": ({"a": "g", "b": "g", "c": "g"}, {"a": "b", "b": "a", "c": None})}, ["c"])
        self.assertEqual(blockers(net, (), ["lost", "rings"]), [("c",), ("a", "b")])
        self.assertEqual(why_not(net, (), ("a", "b", "c"), ["lost", "rings"]), ("c",))
        self.assertEqual(why_not(net, (), ("a", "b"), ["lost", "rings"]), ("a", "b"))
        self.assertEqual(greatest_rounds(net, (), ["lost", "rings"]), [("a",), ("b",)])

    def test_errors_in_their_order(self):
        calls = {blockers: [None, None, None], greatest_rounds: [None, None, None], why_not: [None] * 4}
        for function, given in calls.items():
            for value in any_values() + ["g", triangle().tables]:
                if not isinstance(value, Net):
                    with self.assertRaises(BadNet) as caught:
                        function(value, *given[1:])
                    self.assertEqual(caught.exception.part, "net")
            for value in [value for value in any_values() if value != ()] + [["a"], ("b", "a"), ("d",), ("a", "a"), "a"]:
                with self.assertRaises(BadLot) as caught:
                    function(triangle(), value, *given[2:])
                self.assertEqual(caught.exception.part, "done")
            lots = [("c",)] if function is why_not else []
            for value in [value for value in any_values() if value not in ([], ())] + [["home", "home"], "home", ["x"]]:
                with self.assertRaises(BadWishes):
                    function(triangle(), ("b",), *lots, value)
        for value in [value for value in any_values() if value != ()] + [["a"], ("b", "a"), ("d",), ("b",), ("a", "b")]:
            with self.assertRaises(BadLot) as caught:
                why_not(triangle(), ("b",), value, None)
            self.assertEqual(caught.exception.part, "lot")


if __name__ == "__main__":
    unittest.main()
