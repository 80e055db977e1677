"""The examples of DOC.md, as far as their parts are there."""

import unittest

from roundways.blockers import blockers, greatest_rounds
from roundways.nets import Net
from roundways.plans import fewest, how_many, is_plan
from roundways.slow import most_hops, slow_twice
from roundways.wishes import keeps, shown


class ExamplesTest(unittest.TestCase):
    def test_the_first_net(self):
        net = Net({"g": ({"a": "b", "b": "c", "c": "g"}, {"a": "c", "b": "g", "c": "b"})}, ["a"], ["b"])
        self.assertEqual((keeps(net, (), ("a",), ["rings"]), shown(net, (), ("a",), "posts")),
                         (True, ("broken", ("g", ("a",), "a"))))
        self.assertEqual((len(fewest(net, ["rings"])[1]), fewest(net, ["posts", "rings"])[1]),
                         (2, [("b",), ("c",), ("a",)]))
        # The plan of three rounds is the only one.
        self.assertEqual([how_many(net, ["posts", "rings"], many) for many in range(7)], [0, 0, 0, 1, 0, 0, 0])

    def test_the_pair(self):
        pair = Net({"g": ({"a": "b", "b": "g"}, {"a": "g", "b": "a"})})
        plan = [("a",), ("b",)]
        self.assertEqual((blockers(pair, (), ["rings"]), greatest_rounds(pair, (), ["rings"])), ([("b",)], [("a",)]))
        self.assertEqual((most_hops(pair, plan, "g", "a"), [place for stage, place in slow_twice(pair, plan, "g", "a")]),
                         (3, ["a", "b", "a"]))
        # No round of it has a ring.
        self.assertIs(is_plan(pair, ["rings"], plan), True)


if __name__ == "__main__":
    unittest.main()
