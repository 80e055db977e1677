"""The examples of DOC.md."""

import unittest

from roundways.blockers import blockers, greatest_rounds
from roundways.desk import Desk
from roundways.nets import Net
from roundways.plans import fewest, how_many, is_plan
from roundways.slow import most_hops, slow_twice
from roundways.wishes import keeps, shown


class ExamplesTest(unittest.TestCase):
    def test_the_first_net(self):
        net = Net({"g": ({"a": "b", "b": "c", "c": "g"}, {"a": "c", "b": "g", "c": "b"})}, ["a"], ["b"])
        self.assertEqual((keeps(net, (), ("a",), ["rings"]), shown(net, (), ("a",), "posts")),
                         (True, ("broken", ("g", ("a",), "a"))))
        self.assertEqual((len(fewest(net, ["rings"])[1]), fewest(net, ["posts", "rings"])[1]),
                         (2, [("b",), ("c",), ("a",)]))
        # The plan of three rounds is the only one.
        self.assertEqual([how_many(net, ["posts", "rings"], many) for many in range(7)], [0, 0, 0, 1, 0, 0, 0])

    def test_the_pair(self):
        pair = Net({"g": ({"a": "b", "b": "g"}, {"a": "g", "b": "a"})})
        plan = [("a",), ("b",)]
        self.assertEqual((blockers(pair, (), ["rings"]), greatest_rounds(pair, (), ["rings"])), ([("b",)], [("a",)]))
        self.assertEqual((most_hops(pair, plan, "g", "a"), [place for stage, place in slow_twice(pair, plan, "g", "a")]),
                         (3, ["a", "b", "a"]))
        # No round of it has a ring.
        self.assertIs(is_plan(pair, ["rings"], plan), True)

    def test_the_desk(self):
        desk = Desk("goal g\nway a b g\nway b g a\nsources a\nposts -\n", ["rings"])
        first = [desk.reply(line) for line in ("begin b", "begin a", "send g a", "hop 0")]
        later = [desk.reply(line) for line in ("change a", "close", "begin b", "fates 0", "passed 0")]
        self.assertEqual(first + later, ["error Unsafe", "ok", "0", "b", "ok", "ok", "ok", "goal", "a b"])


if __name__ == "__main__":
    unittest.main()
