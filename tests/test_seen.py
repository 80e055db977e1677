import unittest

from plain_plans import all_stories
from roundways.errors import BadNet, BadPlan, BadSights
from roundways.nets import Net
from roundways.seen import clash, is_story, known, stages, story
from values import any_values, chain, crossed, double, losing, nested, other_net, pair, refusal, still, triangle

PLAN = [("a",), ("b",)]
OLD_A, NEW_A, OLD_B, NEW_B = ("g", "a", "b"), ("g", "a", "g"), ("g", "b", "g"), ("g", "b", "a")
FUNCTIONS = (story, stages, known, clash)


class FitTest(unittest.TestCase):
    def fit(self, net, plan, sights, wanted_stages, wanted_known):
        """Sights fit, with these stages, and these nodes known to have changed."""
        for some in (list(sights), tuple(sights)):
            found = story(net, plan, some)
            self.assertIs(type(found), list)
            self.assertIn(found, all_stories(net, plan, sights))
            self.assertIs(is_story(net, plan, some, found), True)
            self.assertEqual(stages(net, plan, some), wanted_stages)
            self.assertEqual(known(net, plan, some), wanted_known)
            self.assertIsNone(clash(net, plan, some))

    def clashes(self, net, plan, sights, first, second):
        """Sights do not fit, and these are the first that do not."""
        for function in (story, stages, known):
            self.assertIsNone(function(net, plan, sights))
        self.assertEqual(clash(net, plan, sights), (first, second))
        self.assertIs(type(clash(net, plan, sights)), tuple)
        self.assertEqual(all_stories(net, plan, sights), [])

    def test_one_sight(self):
        self.fit(pair(), PLAN, [OLD_A], [(0,)], ((), ()))
        self.fit(pair(), PLAN, [NEW_A], [(0, 1, 2)], (("a",), ("a", "b")))
        self.fit(pair(), PLAN, [OLD_B], [(0, 1)], ((), ("a",)))
        self.fit(pair(), PLAN, [NEW_B], [(1, 2)], (("a", "b"), ("a", "b")))
        self.fit(pair(), [("a", "b")], [NEW_B], [(0, 1)], (("b",), ("a", "b")))
        self.fit(pair(), [("a", "b")], [OLD_B], [(0,)], ((), ("a",)))

    def test_several_sights(self):
        self.fit(pair(), PLAN, [OLD_A, NEW_B], [(0,), (1, 2)], (("a", "b"), ("a", "b")))
        self.fit(pair(), PLAN, [NEW_A, OLD_B], [(0, 1), (0, 1)], (("a",), ("a",)))
        self.fit(pair(), PLAN, [OLD_A, OLD_B, NEW_A], [(0,), (0, 1), (0, 1, 2)], (("a",), ("a", "b")))
        self.fit(pair(), [("a", "b")], [OLD_A, NEW_B, OLD_A], [(0,), (0,), (0,)], (("b",), ("b",)))
        self.fit(pair(), [("a", "b")], [OLD_A, OLD_B, NEW_B, NEW_A], [(0,), (0,), (0, 1), (0, 1)], (("a", "b"), ("a", "b")))

    def test_no_sights(self):
        for net, plan, nodes in ((pair(), PLAN, ("a", "b")), (pair(), [("b",)], ("b",)), (pair(), [], ()), (still(), [], ()),
                                 (triangle(), [("c",), ("a", "b")], ("a", "b", "c"))):
            self.assertEqual(known(net, plan, []), ((), nodes))
            self.assertEqual((story(net, plan, []), stages(net, plan, ())), ([], []))
            self.assertIsNone(clash(net, plan, []))
            self.assertIs(is_story(net, plan, [], []), True)
            self.assertIs(is_story(net, plan, (), ()), True)
            self.assertIs(is_story(net, plan, [], [(0, ())]), False)

    def test_the_plan_without_rounds(self):
        self.fit(pair(), [], [OLD_A, OLD_B, OLD_A], [(0,)] * 3, ((), ()))
        self.clashes(pair(), [], [OLD_A, NEW_B], 0, 1)
        self.clashes(pair(), [], [NEW_B, OLD_A], 0, 0)
        self.fit(still(), [], [("g", "a", "b")], [(0,)], ((), ()))
        self.clashes(still(), [], [("g", "a", "g")], 0, 0)

    def test_the_same_sight_twice(self):
        self.fit(pair(), PLAN, [OLD_A, OLD_A], [(0,), (0,)], ((), ()))
        self.fit(pair(), PLAN, [NEW_B, NEW_B], [(1, 2), (1, 2)], (("a", "b"), ("a", "b")))
        self.clashes(pair(), PLAN, [OLD_A, NEW_A, OLD_A], 1, 2)
        self.clashes(pair(), PLAN, [("g", "a", None)] * 2, 0, 0)

    def test_a_place_that_is_no_way_of_the_node(self):
        self.clashes(pair(), PLAN, [("g", "a", None)], 0, 0)
        # Who cannot be seen at all fits with nobody: the least pair has the first sight.
        self.clashes(pair(), PLAN, [OLD_A, ("g", "b", None), NEW_A, OLD_A], 0, 1)
        self.clashes(pair(), PLAN, [("g", "b", None), OLD_A], 0, 0)
        self.clashes(pair(), [("a",)], [NEW_B], 0, 0)
        self.clashes(pair(), [("a",)], [NEW_A, OLD_A, NEW_B], 0, 1)
        self.clashes(pair(), [("a",)], [OLD_A, NEW_A, NEW_B], 0, 2)
        self.fit(losing(), [("c",), ("b",)], [("g", "c", None)], [(0,)], ((), ()))

    def test_sights_that_fit_each_by_itself(self):
        self.clashes(pair(), PLAN, [NEW_A, OLD_A], 0, 1)
        self.clashes(pair(), PLAN, [NEW_B, OLD_A], 0, 1)
        self.clashes(pair(), PLAN, [NEW_B, OLD_B], 0, 1)
        self.clashes(pair(), [("b",), ("a",)], [NEW_A, OLD_B], 0, 1)
        self.fit(pair(), [("b",), ("a",)], [NEW_B, OLD_A], [(0, 1), (0, 1)], (("b",), ("b",)))

    def test_the_least_pair(self):
        self.clashes(pair(), PLAN, [OLD_B, NEW_A, NEW_B, OLD_A], 1, 3)
        self.clashes(pair(), PLAN, [NEW_A, OLD_B, NEW_B, OLD_B, OLD_A], 0, 4)
        self.clashes(pair(), PLAN, [NEW_A, OLD_A, ("g", "b", None)], 0, 1)
        self.clashes(pair(), PLAN, [OLD_A, NEW_A, OLD_A, ("g", "b", None)], 0, 3)
        self.clashes(pair(), PLAN, [OLD_B, NEW_B, OLD_B, OLD_A], 1, 2)

    def test_two_sights_of_one_stage(self):
        plan = [("a", "b")]
        self.fit(pair(), plan, [OLD_A, NEW_A], [(0,), (0, 1)], (("a",), ("a", "b")))
        self.clashes(pair(), plan, [NEW_A, OLD_A], 0, 1)
        self.fit(pair(), plan, [NEW_A, OLD_B], [(0,), (0,)], (("a",), ("a",)))
        self.clashes(pair(), plan, [NEW_A, OLD_B, NEW_B, OLD_A], 0, 3)

    def test_two_goals(self):
        sights = [("g", "a", "b"), ("h", "b", "a"), ("h", "a", "b"), ("g", "b", "g")]
        self.fit(crossed(), PLAN, sights, [(0,), (0, 1), (0, 1), (0, 1)], (("a",), ("a",)))
        self.clashes(crossed(), PLAN, [sights[2], sights[1], sights[0]], 0, 2)
        # For g the node b always has the same way.
        self.fit(double(), [("b",)], [("g", "b", "c")], [(0, 1)], ((), ("b",)))
        self.fit(double(), [("b",)], [("h", "b", "a"), ("g", "b", "c")], [(0, 1), (0, 1)], (("b",), ("b",)))

    def test_twelve_sights(self):
        sights = [OLD_A] * 6 + [NEW_A] * 3 + [NEW_B] * 3
        self.assertEqual(stages(pair(), PLAN, sights), [(0,)] * 6 + [(0, 1, 2)] * 3 + [(1, 2)] * 3)
        self.assertEqual(known(pair(), PLAN, sights), (("a", "b"), ("a", "b")))
        self.assertIs(is_story(pair(), PLAN, sights, story(pair(), PLAN, sights)), True)
        self.assertEqual(clash(pair(), PLAN, sights[::-1]), (0, 6))
        six = [(node,) for node in "abcdef"]
        back = [("goal", node, "a") for node in "bcdef"]
        sights = [("goal", "f", "goal"), ("goal", "a", "b"), ("goal", "b", "c"), *back, *back[-4:]]
        self.assertEqual(stages(chain(), six, sights), [(0,)] * 2 + [(0, 1), (1, 2, 3, 4, 5, 6), (2, 3, 4, 5, 6), (3, 4, 5, 6),
                                                                (4, 5, 6)] + [(5, 6)] * 5)
        self.assertEqual(known(chain(), six, sights), (tuple("abcdef"),) * 2)


class IsStoryTest(unittest.TestCase):
    def judged(self, wanted, sights, *things, plan=PLAN):
        for thing in things:
            for value in (thing, tuple(thing)):
                self.assertIs(is_story(pair(), plan, sights, value), wanted, thing)
            self.assertEqual(list(thing) in all_stories(pair(), plan, sights), wanted)

    def test_stories(self):
        self.judged(True, [OLD_A], [(0, ())])
        self.judged(False, [OLD_A], [(0, ("a",))], [(1, ())], [], [(0, ()), (0, ())])
        self.judged(True, [NEW_A], [(0, ("a",))], [(1, ())], [(1, ("b",))], [(2, ())])
        self.judged(False, [NEW_A], [(0, ())], [(0, ("b",))], [(1, ("a",))], [(2, ("b",))], [(3, ())], [(0, ("a", "b"))], [(-1, ())])

    def test_stages_do_not_fall(self):
        self.judged(True, [NEW_A, OLD_B], [(0, ("a",)), (0, ("a",))], [(0, ("a",)), (1, ())], [(1, ()), (1, ())])
        self.judged(False, [NEW_A, OLD_B], [(1, ()), (0, ("a",))], [(1, ("b",)), (1, ())], [(2, ()), (1, ())])

    def test_what_has_changed_within_a_stage_stays(self):
        plan = [("a", "b")]
        self.judged(True, [NEW_B, OLD_A], [(0, ("b",)), (0, ("b",))], plan=plan)
        self.judged(True, [OLD_A, NEW_A], [(0, ()), (0, ("a",))], [(0, ("b",)), (0, ("a", "b"))], [(0, ("b",)), (1, ())], plan=plan)
        self.judged(False, [OLD_A, NEW_A], [(0, ("b",)), (0, ("a",))], [(0, ()), (0, ())], [(0, ("b",)), (1, ("a",))], plan=plan)

    def test_any_value_is_judged(self):
        sights, good = [NEW_A, OLD_B], [(0, ("a",)), (1, ())]
        self.assertIs(is_story(pair(), PLAN, sights, good), True)
        for value in any_values() + [[good], {0: good}, [list(state) for state in good], dict(good), nested(good, 1)]:
            self.assertIs(is_story(pair(), PLAN, sights, value), False)
            self.assertIs(is_story(pair(), PLAN, sights, [good[0], value]), False)
            self.assertIs(is_story(pair(), PLAN, sights, [value, good[1]]), False)
            self.assertIs(is_story(pair(), PLAN, sights, [*good, value]), False)
            if value != 1 or value is True:
                self.assertIs(is_story(pair(), PLAN, sights, [good[0], (value, ())]), False)
            if value != ():
                self.assertIs(is_story(pair(), PLAN, sights, [good[0], (1, value)]), False)
        for wrong in ((False, ("a",)), [0, ("a",)], (0, ["a"]), (0, "a"), (0, ("a",), 1), (0,), (0, ("a", "a"))):
            self.assertIs(is_story(pair(), PLAN, sights, [wrong, good[1]]), False)


class ErrorsTest(unittest.TestCase):
    def refused(self, error, told, *given):
        for function in FUNCTIONS:
            refusal(self, error, told, function, *given)
        refusal(self, error, told, is_story, *given, None)

    def test_no_list_or_too_many(self):
        for value in any_values() + ["a", {OLD_A: 1}]:
            if not isinstance(value, (list, tuple)):
                self.refused(BadSights, None, pair(), PLAN, value)
        self.refused(BadSights, None, pair(), PLAN, [OLD_A] * 13)
        self.refused(BadSights, None, pair(), PLAN, (NEW_A,) * 100)
        self.refused(BadSights, None, pair(), PLAN, [None] * 13)
        self.refused(BadSights, 11, pair(), PLAN, [OLD_A] * 11 + [None])
        self.refused(BadSights, 0, pair(), PLAN, OLD_A)

    def test_the_first_wrong_sight(self):
        wrong = any_values() + [
            list(OLD_A), ("g", "a"), (*OLD_A, 0), ("h", "a", "b"), ("a", "a", "b"), ("g", "g", "b"), ("g", "c", "b"),
            ("g", "a", "a"), ("g", "a", "c"), ("g", None, "b"), (None, "a", "b"), ("g", "a", ["b"]), ("g", ["a"], "b"),
            (["g"], "a", "b"), ("g", "a", True), "gab", {"g": "a"}, (("g",), "a", "b"), ("g", "a", ""), (0, "g", "a"),
        ]
        for value in wrong:
            self.refused(BadSights, 0, pair(), PLAN, [value])
            self.refused(BadSights, 1, pair(), PLAN, (OLD_A, value))
            self.refused(BadSights, 1, pair(), PLAN, [OLD_A, value, NEW_A, None])

    def test_the_goal_of_another_pair_is_no_place(self):
        self.refused(BadSights, 1, crossed(), PLAN, [("g", "a", "g"), ("g", "a", "h")])
        self.refused(BadSights, 0, crossed(), PLAN, [("h", "b", "g")])
        self.refused(BadSights, 2, double(), [("a",)], [("g", "d", "a"), ("h", "d", None), ("h", "h", "a")])

    def test_places_that_are_no_ways_are_sights(self):
        for sight in (("g", "a", None), ("g", "b", None)):
            self.assertEqual(clash(pair(), PLAN, [sight]), (0, 0))

    def test_the_first_wrong_one_is_told(self):
        self.refused(BadNet, "net", None, None, None)
        self.refused(BadNet, "net", other_net().tables, [None], [None])
        self.refused(BadPlan, None, other_net(), None, None)
        self.refused(BadPlan, 1, other_net(), [("y",), ("y",)], [None])
        self.refused(BadPlan, 0, other_net(), ((),), [None])
        self.refused(BadSights, None, other_net(), [("y",)], None)
        net = Net(pair().tables)
        for value in any_values():
            self.refused(BadPlan, 1, net, [("b",), value], None)


if __name__ == "__main__":
    unittest.main()
