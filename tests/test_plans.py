import unittest

from roundways.errors import BadNet, BadNumber, BadWishes
from roundways.nets import Net
from roundways.plans import by_depth, fewest, how_many, is_fewest, is_plan, plan_at
from values import any_values, chain, closing, crossed, double, losing, nested, other_net, pair, still, stuck, triangle

ALL = ["home", "lost", "posts", "rings"]
EACH = [("a",), ("b",), ("c",), ("d",), ("e",), ("f",)]


class IsPlanTest(unittest.TestCase):
    def judged(self, net, wishes, thing):
        found = is_plan(net, wishes, thing)
        self.assertIs(type(found), bool)
        return found

    def test_plans(self):
        for plan in ([("b",), ("c",), ("a",)], [("b",), ("a", "c")], [("a", "b"), ("c",)], [("a",), ("b",), ("c",)]):
            self.assertTrue(self.judged(triangle(), ["rings"], plan))
            self.assertTrue(self.judged(triangle(), ("rings", "home"), tuple(plan)))
        for plan in ([("a", "b", "c")], [("c",), ("a",), ("b",)], [("b", "c"), ("a",)], [("a",), ("b", "c")], [("a", "c"), ("b",)]):
            self.assertFalse(self.judged(triangle(), ["rings"], plan))
        self.assertTrue(self.judged(triangle(), ["posts", "rings"], [("b",), ("c",), ("a",)]))
        self.assertFalse(self.judged(triangle(), ["posts", "rings"], [("b",), ("a", "c")]))
        self.assertTrue(self.judged(triangle(), ["posts"], [("c",), ("a", "b")]))
        self.assertTrue(self.judged(triangle(), ["lost"], [("a", "b", "c")]))

    def test_each_changing_node_is_in_just_one_round(self):
        for plan in ([("a",), ("b",)], [("a",), ("b",), ("c",), ("a",)], [("a", "b"), ("b", "c")], [], [("a", "b")],
                     [("a", "b", "c"), ("a", "b", "c")], [("c",)]):
            self.assertFalse(self.judged(triangle(), [], plan))
            self.assertFalse(self.judged(triangle(), ["lost"], plan))
        self.assertTrue(self.judged(double(), [], [("a", "c"), ("b",)]))
        self.assertFalse(self.judged(double(), [], [("a", "c"), ("b", "d")]))
        self.assertFalse(self.judged(double(), [], [("a", "c"), ("b",), ("d",)]))

    def test_no_round_is_empty(self):
        self.assertTrue(self.judged(triangle(), [], [("a", "b", "c")]))
        for plan in ([("a", "b", "c"), ()], [(), ("a", "b", "c")], [("a",), (), ("b", "c")]):
            self.assertFalse(self.judged(triangle(), [], plan))
        self.assertFalse(self.judged(still(), [], [()]))

    def test_rounds_are_lots(self):
        for plan in ([["a", "b"], ("c",)], [("a", "b"), ["c"]], [("b", "a"), ("c",)], [("a", "a", "b"), ("c",)],
                     [("a", "b"), "c"], ["a", "b", "c"], "abc", ("a", "b", "c"), [("a", "b", "c", "g")], {("a", "b", "c"): 1},
                     [{"a": 1, "b": 1, "c": 1}], [("a", "b", "c"), None], [(("a",), "b", "c")], [[("a", "b", "c")]]):
            self.assertFalse(self.judged(triangle(), [], plan))

    def test_nothing_changes(self):
        for wishes in ([], ALL):
            self.assertTrue(self.judged(still(), wishes, []))
            self.assertTrue(self.judged(still(), wishes, ()))
            for plan in ([()], [("a",)], {}, "", None, [[]], 0):
                self.assertFalse(self.judged(still(), wishes, plan))
        self.assertFalse(self.judged(still(["c", "b"]), ["posts"], []))
        self.assertTrue(self.judged(still(["c", "b"]), ["home", "lost", "rings"], []))
        table = {"a": "b", "b": "a", "c": None}
        net = Net({"g": (table, table)}, ["c"])
        self.assertEqual([self.judged(net, [wish], []) for wish in ALL], [True, False, True, False])

    def test_what_was_broken_or_will_be(self):
        self.assertFalse(self.judged(closing(), ["rings"], [("a",), ("b",), ("c",)]))
        self.assertFalse(self.judged(closing().turned(), ["rings"], [("a",), ("b",), ("c",)]))
        self.assertTrue(self.judged(closing(), ["lost"], [("a", "b", "c")]))

    def test_any_value_may_be_judged(self):
        for value in any_values():
            for thing in (value, [value], (value,), [("b",), value], [("b",), ("a", "c"), value], [("b",), ("a", value)],
                          [(value,), ("b",), ("c",)]):
                self.assertFalse(self.judged(triangle(), ["rings"], thing), thing)
        self.assertFalse(self.judged(triangle(), ["rings"], nested([("b",), ("a", "c")], 1)))


class ByDepthTest(unittest.TestCase):
    def test_rounds_of_one_depth(self):
        self.assertEqual(by_depth(triangle()), [("b",), ("c",), ("a",)])
        self.assertEqual(by_depth(pair()), [("a",), ("b",)])
        self.assertEqual(by_depth(chain()), [("a",), ("b", "c", "d", "e", "f")])
        self.assertEqual(by_depth(chain().turned()), EACH[::-1])
        self.assertEqual(by_depth(net=stuck()), [("b",), ("d",), ("c",), ("a",)])

    def test_depths_without_nodes_that_change(self):
        old = {"a": "b", "b": "c", "c": "g", "d": "g"}
        net = Net({"g": (old, {"a": "d", "b": "c", "c": "g", "d": "b"})})
        # By the new ways it is 1 hop from c, 2 from b, 3 from d, 4 from a.
        self.assertEqual(by_depth(net), [("d",), ("a",)])
        self.assertEqual(by_depth(net.turned()), [("d",), ("a",)])

    def test_nothing_changes(self):
        self.assertEqual(by_depth(still()), [])

    def test_none(self):
        self.assertIsNone(by_depth(crossed()))
        self.assertIsNone(by_depth(double()))
        self.assertIsNone(by_depth(closing()))
        self.assertIsNone(by_depth(closing().turned()))
        self.assertIsNone(by_depth(losing()))
        self.assertIsNone(by_depth(other_net()))

    def test_what_is_no_net(self):
        for value in any_values() + [triangle().tables]:
            if not isinstance(value, Net):
                with self.assertRaises(BadNet) as caught:
                    by_depth(value)
                self.assertEqual(caught.exception.part, "net")


class FewestTest(unittest.TestCase):
    def rounds(self, net, wishes):
        """How many rounds a plan has for which there is a paper, None if there is a closed list of lots."""
        found = fewest(net, wishes)
        self.assertIs(type(found), tuple)
        self.assertIs(is_fewest(net, wishes, found), True)
        if found[0] == "never":
            self.assertIs(type(found[1]), list)
            return None
        self.assertIs(type(found[1]), list)
        self.assertEqual(list(found[2]), sorted(found[2]))
        self.assertIs(is_plan(net, wishes, found[1]), True)
        return len(found[1])

    def test_plans(self):
        self.assertEqual(self.rounds(triangle(), ["rings"]), 2)
        self.assertEqual(self.rounds(triangle(), ["posts", "rings"]), 3)
        self.assertEqual(fewest(triangle(), ["posts", "rings"])[1], [("b",), ("c",), ("a",)])
        self.assertEqual(self.rounds(triangle(), ["lost"]), 1)
        self.assertEqual(fewest(pair(), ["rings"]), ("plan", [("a",), ("b",)], {(): 0, ("a",): 1, ("a", "b"): 2}))
        self.assertEqual(self.rounds(chain(), ["home", "rings"]), 2)
        self.assertEqual(fewest(chain(), ["rings"])[1], [("a",), ("b", "c", "d", "e", "f")])
        self.assertEqual(self.rounds(stuck(), ["posts"]), 3)
        self.assertEqual(self.rounds(stuck(), ["rings"]), 3)
        self.assertEqual(self.rounds(Net({"g": losing().turned().tables["g"]}, ["a"]), ["lost"]), 2)

    def test_six_rounds(self):
        # Back along the chain each node must wait for the one that is nearer to the goal.
        old = {"a": "goal", "b": "a", "c": "b", "d": "c", "e": "d", "f": "e"}
        new = {"a": "b", "b": "c", "c": "d", "d": "e", "e": "f", "f": "goal"}
        net = Net({"goal": (old, new)})
        self.assertEqual(self.rounds(net, ["rings"]), 6)
        self.assertEqual(fewest(net, ["rings"])[1], EACH[::-1])
        self.assertEqual([how_many(net, ["rings"], many) for many in range(7)], [0, 0, 0, 0, 0, 0, 1])
        self.assertEqual(self.rounds(net, ["lost"]), 1)

    def test_no_plan(self):
        self.assertEqual(fewest(crossed(), ["rings"]), ("never", [()]))
        self.assertEqual(fewest(double(), ["lost", "rings"]), ("never", [()]))
        self.assertIsNone(self.rounds(stuck(), ["posts", "rings"]))
        self.assertIsNone(self.rounds(closing(), ["home"]))
        self.assertEqual(sorted(fewest(closing(), ["rings"])[1]),
                         [(), ("a",), ("a", "b"), ("a", "c"), ("b",), ("b", "c"), ("c",)])

    def test_no_wishes(self):
        for net in (triangle(), chain(), crossed(), double(), closing()):
            self.assertEqual(self.rounds(net, []), 1)
            self.assertEqual(fewest(net, ())[1], [net.changing])

    def test_nothing_changes(self):
        self.assertEqual(fewest(still(), ALL), ("plan", [], {(): 0}))
        self.assertEqual(fewest(still(["c", "b"]), ALL), ("never", [()]))
        self.assertEqual(fewest(still(["c", "b"]), ["home"]), ("plan", [], {(): 0}))


class IsFewestTest(unittest.TestCase):
    plan = [("a",), ("b",)]
    numbers = {(): 0, ("a",): 1, ("a", "b"): 2}

    def judged(self, net, wishes, thing):
        found = is_fewest(net, wishes, thing)
        self.assertIs(type(found), bool)
        return found

    def test_numbers(self):
        def judged(numbers, plan=self.plan):
            return self.judged(pair(), ["rings"], ("plan", plan, numbers))

        # Behind () only a is a safe round, behind a only b.
        self.assertTrue(judged(self.numbers))
        self.assertTrue(judged({("a", "b"): 2, ("a",): 1, (): 0}))
        self.assertTrue(judged(self.numbers, tuple(self.plan)))
        self.assertTrue(judged({**self.numbers, ("b",): 0}))
        self.assertTrue(judged({**self.numbers, ("b",): 10 ** 999}))
        for wrong in ({("a",): 1, ("a", "b"): 2}, {(): 0, ("a", "b"): 2}, {(): 0, ("a",): 1}, {}, {**self.numbers, (): 1},
                      {**self.numbers, ("a",): 2}, {**self.numbers, ("a",): 0}, {**self.numbers, ("a", "b"): 1},
                      {**self.numbers, ("a", "b"): 3}, {**self.numbers, (): False}, {**self.numbers, ("a",): True},
                      {**self.numbers, ("b",): -1}, {**self.numbers, ("b",): None}, {**self.numbers, ("b", "a"): 2},
                      {**self.numbers, "a": 1}, {**self.numbers, ("c",): 1}, {**self.numbers, None: 1},
                      {**self.numbers, ("a", "a"): 1}, {**self.numbers, (("a",),): 1}, list(self.numbers.items())):
            self.assertFalse(judged(wrong), wrong)
        for plan in ([("b",), ("a",)], [("a", "b")], [("a",)], [], [("a",), ("b",), ()], [["a"], ["b"]], None):
            self.assertFalse(judged(self.numbers, plan))

    def test_numbers_that_are_lower_than_the_rounds_behind(self):
        plan = [("b",), ("c",), ("a",)]
        least = {(): 0, ("b",): 1, ("b", "c"): 2, ("a", "b", "c"): 3}
        wishes = ["posts", "rings"]
        self.assertTrue(self.judged(triangle(), wishes, ("plan", plan, least)))
        # Behind the other lots there are no safe rounds: their numbers may be as low as may be.
        for lot in (("a",), ("c",), ("a", "b"), ("a", "c")):
            for number in (0, 1, 7):
                self.assertTrue(self.judged(triangle(), wishes, ("plan", plan, {**least, lot: number})))
        for lot, number in ((("b",), 0), (("b", "c"), 1), (("b", "c"), 0), (("a", "b", "c"), 2), (("b", "c"), 3)):
            self.assertFalse(self.judged(triangle(), wishes, ("plan", plan, {**least, lot: number})))
        # Here a may come at once or later: that its number is 0 tells too little, but of a only.
        plan = [("b",), ("a", "c")]
        least = {(): 0, ("a",): 1, ("b",): 1, ("a", "b"): 1, ("b", "c"): 2, ("a", "b", "c"): 2}
        self.assertTrue(self.judged(triangle(), ["rings"], ("plan", plan, least)))
        self.assertTrue(self.judged(triangle(), ["rings"], ("plan", plan, {**least, ("a",): 0})))
        self.assertFalse(self.judged(triangle(), ["rings"], ("plan", plan, {**least, ("a",): 2})))
        self.assertTrue(self.judged(triangle(), ["rings"], ("plan", plan, {**least, ("b", "c"): 1})))
        self.assertFalse(self.judged(triangle(), ["rings"], ("plan", plan, {**least, ("b", "c"): 0})))
        self.assertFalse(self.judged(triangle(), ["rings"], ("plan", plan, {**least, ("a", "b"): 0})))

    def test_only_plans_with_as_few_rounds_as_can_be(self):
        numbers = {(): 0, ("a",): 1, ("b",): 1, ("a", "b"): 1, ("b", "c"): 2, ("a", "b", "c"): 2}
        for plan in ([("b",), ("a", "c")], [("a", "b"), ("c",)]):
            self.assertTrue(self.judged(triangle(), ["rings"], ("plan", plan, numbers)))
        for plan in ([("a",), ("b",), ("c",)], [("b",), ("c",), ("a",)], [("b",), ("a",), ("c",)]):
            self.assertFalse(self.judged(triangle(), ["rings"], ("plan", plan, numbers)))
            higher = {**numbers, ("a", "b"): 2, ("a", "b", "c"): 3}
            self.assertFalse(self.judged(triangle(), ["rings"], ("plan", plan, higher)))

    def test_closed_lists_of_lots(self):
        lots = [(), ("a",), ("a", "b"), ("a", "c"), ("b",), ("b", "c"), ("c",)]

        def judged(value):
            return self.judged(closing(), ["rings"], ("never", value))

        self.assertTrue(judged(lots))
        self.assertTrue(judged(tuple(lots)))
        self.assertTrue(judged(lots[::-1]))
        for lot in lots:
            self.assertFalse(judged([other for other in lots if other != lot]))
            self.assertFalse(judged(lots + [lot]))
            self.assertFalse(judged([list(lot) if other == lot else other for other in lots]))
        for more in (["a"], "a", ("b", "a"), ("a", "a"), ("d",), None, ("g",), (("a",),), 0):
            self.assertFalse(judged(lots + [more]))
        for value in ({lot: 0 for lot in lots}, None, "", [], (), [None], [()], [lots], 0):
            self.assertFalse(judged(value))

    def test_lists_with_further_lots(self):
        # No round is safe behind (), nor behind a or b.
        for lots in ([()], [(), ("a",)], [("b",), ()], [("a",), (), ("b",)]):
            self.assertTrue(self.judged(crossed(), ["rings"], ("never", lots)))
            self.assertFalse(self.judged(crossed(), ["rings"], ("never", lots + [("a", "b")])))
        self.assertFalse(self.judged(crossed(), ["rings"], ("never", [("a",)])))
        # Behind b and c the round a is safe: who has this lot needs the lot of all, which must not be there.
        self.assertFalse(self.judged(stuck(), ["posts", "rings"], ("never", [(), ("b", "c", "d"), ("a", "b", "c", "d")])))

    def test_the_lot_of_all_nodes_if_it_is_not_safe(self):
        lots = [(), ("a",), ("a", "b"), ("a", "c"), ("b",), ("b", "c"), ("c",), ("a", "b", "c")]
        self.assertTrue(self.judged(closing(), ["lost"], ("plan", [("a", "b", "c")], {lot: min(len(lot), 1) for lot in lots})))
        # The ring of all new ways breaks the wish behind all rounds.
        self.assertTrue(self.judged(closing(), ["rings"], ("never", lots)))
        self.assertFalse(self.judged(closing(), ["lost"], ("never", lots)))
        self.assertFalse(self.judged(closing(), ["lost"], ("never", lots[:-1])))

    def test_nothing_changes(self):
        good, bad = still(), still(["c", "b"])
        self.assertTrue(self.judged(good, ALL, ("plan", [], {(): 0})))
        self.assertTrue(self.judged(good, ALL, ("plan", (), {(): 0})))
        self.assertFalse(self.judged(good, ALL, ("plan", [], {})))
        self.assertFalse(self.judged(good, ALL, ("plan", [], {(): 1})))
        self.assertFalse(self.judged(good, ALL, ("plan", [()], {(): 0})))
        self.assertFalse(self.judged(good, ALL, ("never", [()])))
        self.assertTrue(self.judged(bad, ALL, ("never", [()])))
        self.assertFalse(self.judged(bad, ALL, ("never", [])))
        self.assertFalse(self.judged(bad, ALL, ("plan", [], {(): 0})))
        self.assertTrue(self.judged(bad, ["rings"], ("plan", [], {(): 0})))

    def test_any_value_may_be_judged(self):
        for value in any_values() + [("plan",), ("plan", self.plan), ("plan", self.plan, self.numbers, None), "plan",
                                     ["plan", self.plan, self.numbers], ("never", self.plan, self.numbers), ("never",),
                                     ("Plan", self.plan, self.numbers), ("plan", self.numbers, self.plan),
                                     {"plan": self.plan}, ("plan", (self.plan, self.numbers))]:
            for thing in (value, (value,), ("plan", value), ("never", value), ("plan", value, self.numbers),
                          ("plan", self.plan, value), (value, [()]), ("never", [(), value]),
                          ("plan", [("a",), value], self.numbers), ("plan", [*self.plan, value], self.numbers)):
                self.assertFalse(self.judged(pair(), ["rings"], thing), thing)
            if value != "never":
                self.assertFalse(self.judged(crossed(), ["rings"], (value, [()])))
            if value != "plan":
                self.assertFalse(self.judged(pair(), ["rings"], (value, self.plan, self.numbers)))
            paper = ("plan", self.plan, {**self.numbers, ("b",): value})
            self.assertIs(self.judged(pair(), ["rings"], paper), type(value) is int and value >= 0)
            if value not in ((), ("a",)):
                self.assertFalse(self.judged(crossed(), ["rings"], ("never", [(), value])))


class CountsTest(unittest.TestCase):
    def test_how_many(self):
        self.assertEqual([how_many(triangle(), ["rings"], many) for many in range(7)], [0, 0, 2, 3, 0, 0, 0])
        self.assertEqual([how_many(triangle(), ["posts", "rings"], many) for many in range(7)], [0, 0, 0, 1, 0, 0, 0])
        self.assertEqual([how_many(triangle(), ["posts"], many) for many in range(7)], [0, 0, 2, 3, 0, 0, 0])
        self.assertEqual([how_many(triangle(), [], many) for many in range(7)], [0, 1, 6, 6, 0, 0, 0])
        self.assertEqual([how_many(chain(), ["rings"], many) for many in range(7)], [0, 0, 1, 30, 150, 240, 120])
        self.assertEqual([how_many(chain(), [], many) for many in range(7)], [0, 1, 62, 540, 1560, 1800, 720])
        self.assertEqual([how_many(crossed(), ["rings"], many) for many in range(7)], [0] * 7)
        self.assertEqual([how_many(stuck(), ["posts"], many) for many in range(7)], [0, 0, 0, 3, 4, 0, 0])

    def test_nothing_changes(self):
        self.assertEqual([how_many(still(), ALL, many) for many in range(7)], [1, 0, 0, 0, 0, 0, 0])
        self.assertEqual([how_many(still(["c", "b"]), ALL, many) for many in range(7)], [0] * 7)
        self.assertEqual(plan_at(still(), ALL, 0, 0), [])
        for many in range(7):
            for place in (0, 1) if many else (1,):
                with self.assertRaises(BadNumber) as caught:
                    plan_at(still(), ALL, many, place)
                self.assertEqual(caught.exception.number, place)
        with self.assertRaises(BadNumber):
            plan_at(still(["c", "b"]), ALL, 0, 0)

    def test_plan_at(self):
        plans = [[("a",), ("b",), ("c",)], [("b",), ("a",), ("c",)], [("b",), ("c",), ("a",)]]
        self.assertEqual([plan_at(triangle(), ["rings"], 3, at) for at in range(3)], plans)
        self.assertEqual([plan_at(triangle(), ["rings"], 2, at) for at in range(2)], [[("a", "b"), ("c",)], [("b",), ("a", "c")]])
        self.assertEqual(plan_at(triangle(), [], 1, 0), [("a", "b", "c")])
        self.assertEqual(plan_at(triangle(), ("posts", "rings"), 3, 0), [("b",), ("c",), ("a",)])

    def test_plans_ascend_as_tuples(self):
        wanted = [[("a",), ("b", "c")], [("a", "b"), ("c",)], [("a", "c"), ("b",)], [("b",), ("a", "c")], [("b", "c"), ("a",)],
                  [("c",), ("a", "b")]]
        self.assertEqual([plan_at(triangle(), [], 2, at) for at in range(6)], wanted)
        self.assertEqual(plan_at(chain(), ["rings"], 6, 0), EACH)
        self.assertEqual(plan_at(chain(), ["rings"], 6, 1), EACH[:4] + [("f",), ("e",)])
        self.assertEqual(plan_at(chain(), ["rings"], 6, 119), EACH[:1] + EACH[:0:-1])
        self.assertEqual(plan_at(chain(), ["rings"], 3, 0), [("a",), ("b",), ("c", "d", "e", "f")])
        self.assertEqual(plan_at(chain(), ["rings"], 3, 1), [("a",), ("b", "c"), ("d", "e", "f")])
        self.assertEqual(plan_at(chain(), ["rings"], 3, 29), [("a",), ("f",), ("b", "c", "d", "e")])
        self.assertEqual(plan_at(chain(), ["rings"], 2, 0), [("a",), ("b", "c", "d", "e", "f")])

    def test_numbers_of_rounds(self):
        wrong = [value for value in any_values() if value not in (0, 1, 2) or isinstance(value, bool)]
        for value in wrong + [7, 8, -1, -6, 100, "3", [3], (3,), {3: 3}]:
            for call in (lambda: how_many(triangle(), ["rings"], value), lambda: plan_at(triangle(), ["rings"], value, 0),
                         lambda: plan_at(triangle(), ["rings"], value, None)):
                with self.assertRaises(BadNumber) as caught:
                    call()
                self.assertEqual(caught.exception.number, value)
                self.assertIs(type(caught.exception.number), type(value))
        for many in range(7):
            self.assertIn(how_many(triangle(), ["rings"], many), (0, 2, 3))

    def test_places(self):
        wrong = [value for value in any_values() if value not in (0, 1, 2) or isinstance(value, bool)]
        for value in wrong + [3, 4, -1, -3, 6, "0", [0], (1,)]:
            with self.assertRaises(BadNumber) as caught:
                plan_at(triangle(), ["rings"], 3, value)
            self.assertEqual(caught.exception.number, value)
            self.assertIs(type(caught.exception.number), type(value))
        for many, behind in ((2, 1), (3, 30), (4, 150), (5, 240), (6, 120)):
            for place in (behind, behind + 1, 10 ** 999):
                with self.assertRaises(BadNumber) as caught:
                    plan_at(chain(), ["rings"], many, place)
                self.assertEqual(caught.exception.number, place)
            self.assertEqual(len(plan_at(chain(), ["rings"], many, behind - 1)), many)
        for many in (0, 1):
            with self.assertRaises(BadNumber) as caught:
                plan_at(chain(), ["rings"], many, 0)
            self.assertEqual(caught.exception.number, 0)

    def test_errors_in_their_order(self):
        calls = {is_plan: [None], fewest: [], is_fewest: [None], how_many: [None], plan_at: [None, None]}
        for function, rest in calls.items():
            for value in any_values() + [triangle().tables]:
                if not isinstance(value, Net):
                    with self.assertRaises(BadNet) as caught:
                        function(value, None, *rest)
                    self.assertEqual(caught.exception.part, "net")
            for value in [value for value in any_values() if value not in ([], ())] + ["rings", ["rings", "rings"], ["x"]]:
                with self.assertRaises(BadWishes):
                    function(triangle(), value, *rest)
        with self.assertRaises(BadNumber) as caught:
            plan_at(triangle(), ["rings"], 7, -1)
        self.assertEqual(caught.exception.number, 7)
        with self.assertRaises(BadNumber) as caught:
            plan_at(triangle(), ["rings"], 6, -1)
        self.assertEqual(caught.exception.number, -1)


if __name__ == "__main__":
    unittest.main()
