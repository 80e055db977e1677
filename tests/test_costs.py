import unittest

from roundways.costs import cost, costs, quarrels, saved
from roundways.errors import BadNet, BadNumber, BadWishes
from roundways.nets import Net
from values import any_values, chain, closing, crossed, double, losing, pair, still, stuck, triangle

ALL = ("home", "lost", "posts", "rings")
EVERY = [
    (), ("home",), ("home", "lost"), ("home", "lost", "posts"), ("home", "lost", "posts", "rings"), ("home", "lost", "rings"),
    ("home", "posts"), ("home", "posts", "rings"), ("home", "rings"), ("lost",), ("lost", "posts"),
    ("lost", "posts", "rings"), ("lost", "rings"), ("posts",), ("posts", "rings"), ("rings",),
]


class CostTest(unittest.TestCase):
    def test_cost(self):
        self.assertEqual(cost(triangle(), ["rings"]), 2)
        self.assertEqual(cost(triangle(), ["posts", "rings"]), 3)
        self.assertEqual(cost(triangle(), ("rings", "posts")), 3)
        self.assertEqual(cost(triangle(), ["lost"]), 1)
        self.assertEqual(cost(triangle(), []), 1)
        self.assertEqual(cost(chain(), ALL), 2)
        self.assertEqual(cost(pair(), ["home", "lost", "posts"]), 1)
        self.assertEqual(cost(losing(), ["lost"]), 2)
        self.assertEqual(cost(net=stuck(), wishes=["posts"]), 3)

    def test_no_plan(self):
        self.assertIsNone(cost(crossed(), ["rings"]))
        self.assertIsNone(cost(stuck(), ["posts", "rings"]))
        self.assertIsNone(cost(double(), ["lost"]))
        self.assertIsNone(cost(closing(), ["home"]))
        self.assertIsNone(cost(closing().turned(), ["home"]))

    def test_nothing_changes(self):
        self.assertEqual(cost(still(), ALL), 0)
        self.assertEqual(cost(still(), []), 0)
        self.assertIsNone(cost(still(["c", "b"]), ["posts"]))
        self.assertEqual(cost(still(["c", "b"]), ["home", "lost", "rings"]), 0)

    def test_costs(self):
        found = costs(triangle())
        self.assertEqual(list(found), EVERY)
        self.assertEqual(list(found.values()), [1, 2, 2, 3, 3, 2, 3, 3, 2, 1, 2, 3, 2, 2, 3, 2])
        found = costs(stuck())
        self.assertEqual(list(found), EVERY)
        self.assertEqual(list(found.values()), [1, 3, 3, None, None, 3, None, None, 3, 1, 3, None, 3, 3, None, 3])
        found = costs(net=still(["c", "b"]))
        self.assertEqual(list(found.items()), [(wishes, None if "posts" in wishes else 0) for wishes in EVERY])

    def test_costs_are_those_of_each_tuple(self):
        for net in (triangle(), chain(), closing(), crossed(), double(), losing(), pair(), still(), stuck()):
            for wishes, rounds in costs(net).items():
                self.assertEqual(cost(net, wishes), rounds)
                self.assertEqual(cost(net, list(wishes[::-1])), rounds)


class QuarrelsTest(unittest.TestCase):
    def test_with_a_number_of_rounds(self):
        self.assertEqual(quarrels(triangle(), 0), [()])
        self.assertEqual(quarrels(triangle(), 1), [("home",), ("posts",), ("rings",)])
        self.assertEqual(quarrels(triangle(), 2), [("home", "posts"), ("posts", "rings")])
        for many in (3, 4, 5, 6):
            self.assertEqual(quarrels(triangle(), many), [])
        self.assertEqual(quarrels(stuck(), 2), [("home",), ("posts",), ("rings",)])
        for many in (3, 4, 5, 6):
            self.assertEqual(quarrels(stuck(), many), [("home", "posts"), ("posts", "rings")])

    def test_with_any_number_of_rounds(self):
        self.assertEqual(quarrels(triangle(), None), [])
        self.assertEqual(quarrels(stuck(), None), [("home", "posts"), ("posts", "rings")])
        self.assertEqual(quarrels(crossed(), None), [("home",), ("rings",)])
        self.assertEqual(quarrels(closing(), many=None), [("home",), ("rings",)])
        self.assertEqual(quarrels(still(["c", "b"]), None), [("posts",)])

    def test_by_length(self):
        # a loses packets for g until b has changed, but for h a must come first; and no packet passes the posts.
        net = Net({"g": ({"a": None, "b": "g"}, {"a": "g", "b": "a"}), "h": ({"a": "h", "b": "a"}, {"a": "b", "b": "h"})},
                  ["b"], ["b", "a"])
        self.assertEqual(quarrels(net, None), [("posts",), ("home", "lost"), ("lost", "rings")])
        self.assertEqual(quarrels(net, 6), [("posts",), ("home", "lost"), ("lost", "rings")])
        self.assertEqual(quarrels(net, 2), [("posts",), ("home", "lost"), ("lost", "rings")])

    def test_nothing_changes(self):
        for many in (None, *range(7)):
            self.assertEqual(quarrels(still(), many), [])
            self.assertEqual(quarrels(still(["c", "b"]), many), [("posts",)])

    def test_only_least_ones(self):
        for net in (triangle(), chain(), closing(), crossed(), double(), losing(), pair(), still(), stuck()):
            for many in (None, *range(7)):
                found = quarrels(net, many)
                over = [wishes for wishes, rounds in costs(net).items()
                        if rounds is None or many is not None and rounds > many]
                for wishes in over:
                    self.assertTrue(any(set(least) <= set(wishes) for least in found))
                for least in found:
                    self.assertIn(least, over)
                    self.assertFalse(any(set(wishes) < set(least) for wishes in over))

    def test_wrong_numbers(self):
        wrong = [value for value in any_values() if value is not None and (value not in (0, 1, 2) or isinstance(value, bool))]
        for value in wrong + [7, 8, -1, 100, "1", [1], (None,), [None]]:
            with self.assertRaises(BadNumber) as caught:
                quarrels(triangle(), value)
            self.assertEqual(caught.exception.number, value)
            self.assertIs(type(caught.exception.number), type(value))


class SavedTest(unittest.TestCase):
    def test_saved(self):
        self.assertEqual(saved(triangle(), ["posts", "rings"], ["rings"]), 1)
        self.assertEqual(saved(triangle(), ["rings"], ["posts", "rings"]), -1)
        self.assertEqual(saved(triangle(), ALL, []), 2)
        self.assertEqual(saved(triangle(), [], ["lost"]), 0)
        self.assertEqual(saved(other=("lost",), wishes=("home",), net=triangle()), 1)
        self.assertEqual(saved(still(), ALL, []), 0)

    def test_without_a_plan(self):
        self.assertIsNone(saved(stuck(), ["posts", "rings"], ["posts"]))
        self.assertIsNone(saved(stuck(), ["posts"], ["posts", "rings"]))
        self.assertIsNone(saved(stuck(), ["posts", "rings"], ["posts", "home"]))
        self.assertEqual(saved(stuck(), ["posts"], ["lost"]), 2)
        self.assertIsNone(saved(still(["c", "b"]), [], ["posts"]))
        self.assertIsNone(saved(still(["c", "b"]), ["posts"], []))


class ErrorsTest(unittest.TestCase):
    def test_errors_in_their_order(self):
        for value in any_values() + [triangle().tables]:
            if not isinstance(value, Net):
                for call in (lambda: cost(value, None), lambda: costs(value), lambda: quarrels(value, -1),
                             lambda: saved(value, None, None)):
                    with self.assertRaises(BadNet) as caught:
                        call()
                    self.assertEqual(caught.exception.part, "net")
        for value in [value for value in any_values() if value not in ([], ())] + ["home", ["home"] * 2, ["home", "x"]]:
            for call in (lambda: cost(triangle(), value), lambda: saved(triangle(), value, ["home"]),
                         lambda: saved(triangle(), ["home"], value), lambda: saved(triangle(), value, value),
                         lambda: saved(stuck(), ["posts", "rings"], value)):
                with self.assertRaises(BadWishes):
                    call()


if __name__ == "__main__":
    unittest.main()
