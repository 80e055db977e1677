"""What holds for all functions of the parts 3 to 9: errors in their order, copies, names, equal results."""

import itertools
import unittest

from roundways import blockers, costs, late, plans, seen, slow, wishes
from roundways.errors import BadLot, BadNet, BadNumber, BadPlan, BadSights, BadWish, BadWishes, NoGoal, NoNode, WayError
from roundways.nets import Net
from values import chain, closing, crossed, double, losing, pair, picture, still, stuck, triangle

PARAMETERS = {
    wishes: {
        "keeps": "net done lot wishes", "first_broken": "net done lot wishes", "shown": "net done lot wish",
        "is_shown": "net done lot wish thing",
    },
    blockers: {
        "blockers": "net done wishes", "greatest_rounds": "net done wishes", "why_not": "net done lot wishes",
    },
    plans: {
        "is_plan": "net wishes thing", "by_depth": "net", "fewest": "net wishes", "is_fewest": "net wishes thing",
        "how_many": "net wishes many", "plan_at": "net wishes many place",
    },
    costs: {"cost": "net wishes", "costs": "net", "quarrels": "net many", "saved": "net wishes other"},
    late: {
        "late_fault": "net wishes plan", "least_price": "net wishes plan", "is_late_fault": "net wish plan thing",
        "stands": "net wishes plan many", "fewest_standing": "net wishes many", "most_standing": "net wishes",
    },
    slow: {
        "is_slow": "net plan goal thing", "most_hops": "net plan goal node", "slow_twice": "net plan goal node",
        "slow_fault": "net wishes plan goal node", "hops_paper": "net plan goal node",
        "is_hops_paper": "net plan goal node thing",
    },
    seen: {
        "is_story": "net plan sights thing", "story": "net plan sights", "stages": "net plan sights",
        "known": "net plan sights", "clash": "net plan sights",
    },
}
NUMBERS = {(): 0, ("a",): 1, ("a", "b"): 1, ("a", "b", "c"): 2, ("b",): 1, ("b", "c"): 2}
THINGS = {
    "is_shown": ("kept", {"g": {"a": 2, "b": 0, "c": 1}}),
    "is_plan": [("a", "b"), ("c",)],
    "is_fewest": ("plan", [("a", "b"), ("c",)], NUMBERS),
    "is_late_fault": (1, "g", ("c",), "b"),
    "is_slow": [(0, "a"), (0, "b"), (1, "g")],
    "is_hops_paper": slow.hops_paper(triangle(), [("b",), ("a", "c")], "g", "a"),
    "is_story": [(0, ()), (0, ("b",))],
}
WRONG = {
    "net": [(value, BadNet, "part", "net") for value in (None, "net", {}, [], triangle().tables, BadNet("net"))],
    "done": [(value, BadLot, "part", "done") for value in (None, ["a"], "a", ("b", "a"), ("a", "a"), ("d",), (["a"],))],
    "lot": [(value, BadLot, "part", "lot") for value in (None, ["a"], ("b",), ("a", "b"), ("c", "a"), ("g",), ((),))],
    "wish": [(value, BadWish, None, None) for value in (None, "ring", ["home"], ("home",), "", True, {"home": 1})],
    "wishes": [(value, BadWishes, None, None) for value in (None, "home", ["ring"], ["home", "home"], {"home": 1}, [[]], 0)],
    "other": [(value, BadWishes, None, None) for value in (None, "home", ["ring"], ["home", "home"], {"home": 1}, [[]], 0)],
    "many": [(value, BadNumber, "number", value) for value in ("1", True, False, -1, 7, [1], (2,), 10 ** 999)],
    "plan": [(value, BadPlan, "at", at) for value, at in (
        (None, None), ("ab", None), ({("a",): 1}, None), ([()], 0), ((("b",), ("b",)), 1), ([["a"]], 0), ([("a",), ("d",)], 1),
        ([("c", "a")], 0), (["a"], 0), ([("a",), ("b",), ("c",), None, None], 3), (0, None))],
    "sights": [(value, BadSights, "at", at) for value, at in (
        (None, None), ("a", None), ({}, None), ([None], 0), ([("g", "a", "b"), ("g", "a", "a")], 1), ([("g", "a", "b")] * 13, None),
        ([["g", "a", "b"]], 0), ((("g", "a", None), ("g", "b", "d"), None), 1), (("g", "a", "b"), 0))],
    "goal": [(value, NoGoal, "goal", value) for value in (None, "a", "h", ["g"], ("g",), True, 10 ** 999)],
    "node": [(value, NoNode, "node", value) for value in (None, "g", "d", ["a"], ("a",), False, {"a": 1})],
    "place": [(value, BadNumber, "number", value) for value in (None, "0", True, False, -1, 2, [0], {0: 0}, 10 ** 999)],
}


def functions():
    for module, names in PARAMETERS.items():
        for name, parameters in names.items():
            yield getattr(module, name), name, parameters.split()


def arguments(name, parameters):
    """Arguments that raise no error, by their names."""
    given = {"net": triangle(), "done": ("b",), "lot": ("c",), "wish": "rings", "wishes": ["rings"], "other": ["lost"],
             "many": 2, "place": 1, "plan": [("b",), ("a", "c")], "goal": "g", "node": "a",
             "sights": [("g", "a", "b"), ("g", "b", "g")], "thing": THINGS.get(name)}
    return {parameter: given[parameter] for parameter in parameters}


def spoil(value):
    """Change all lists and dicts at every depth."""
    if isinstance(value, (list, tuple)):
        for item in value:
            spoil(item)
    if isinstance(value, list):
        value.append("spoiled")
    elif isinstance(value, dict):
        for item in value.values():
            spoil(item)
        value["spoiled"] = "spoiled"


def fitted(given, net):
    """The arguments with another net, and with what makes no error with it."""
    goal, node = net.goals[-1], net.nodes[0]
    more = {"net": net, "done": (), "lot": (), "plan": [net.changing] if net.changing else [], "goal": goal, "node": node,
            "sights": [(goal, node, net.way(goal, node, False))]}
    return {**given, **{key: value for key, value in more.items() if key in given}}


def other_kind(value):
    """The value with tuples for lists that are documented as lists."""
    return tuple(value) if isinstance(value, list) else value


def nets():
    return [triangle(), pair(), double(), chain(), crossed(), closing(), stuck(), still(), still(["c", "b"]), losing()]


class ErrorsTest(unittest.TestCase):
    def raised(self, function, given):
        """The error of a call, which changes nothing, by position and by names."""
        before = picture(given)
        errors = []
        for call in (lambda: function(*given.values()), lambda: function(**dict(reversed(list(given.items()))))):
            with self.assertRaises(WayError) as caught:
                call()
            errors.append(caught.exception)
        self.assertEqual(picture(given), before)
        self.assertEqual([type(error) for error in errors], [type(errors[0])] * 2)
        self.assertEqual(picture(vars(errors[0])), picture(vars(errors[1])))
        return errors[0]

    def test_the_first_wrong_parameter_is_told(self):
        for function, name, parameters in functions():
            for at, parameter in enumerate(parameters):
                for value, error, attribute, told in WRONG.get(parameter, []):
                    given = arguments(name, parameters)
                    given[parameter] = value
                    caught = [self.raised(function, given)]
                    for later in parameters[at + 1:]:
                        given[later] = WRONG[later][0][0] if later in WRONG else None
                        caught.append(self.raised(function, given))
                    for one in caught:
                        self.assertIs(type(one), error, (name, parameter, value))
                        if attribute:
                            self.assertEqual(getattr(one, attribute), told)
                            self.assertIs(type(getattr(one, attribute)), type(told))

    def test_several_wrong_parameters(self):
        # Each choice of wrong parameters tells the first one of them.
        for function, name, parameters in functions():
            names = [parameter for parameter in parameters if parameter in WRONG]
            for many in range(1, len(names) + 1):
                for chosen in itertools.combinations(names, many):
                    given = arguments(name, parameters)
                    given.update({parameter: WRONG[parameter][-1][0] for parameter in chosen})
                    self.assertIs(type(self.raised(function, given)), WRONG[chosen[0]][0][1], (name, chosen))

    def test_a_call_that_raises_changes_nothing(self):
        for function, name, parameters in functions():
            given = arguments(name, parameters)
            first = picture(function(**given))
            for parameter in parameters:
                for value, _, _, _ in WRONG.get(parameter, []):
                    self.raised(function, {**given, parameter: value})
            self.assertEqual(picture(function(**given)), first)

    def test_attributes_are_copies(self):
        for function, name, parameters in functions():
            if "many" in parameters:
                given = {**arguments(name, parameters), "many": [[1]]}
                caught = self.raised(function, given)
                given["many"][0].append(2)
                self.assertEqual(caught.number, [[1]])


class CallsTest(unittest.TestCase):
    def test_by_position_and_by_names(self):
        for function, name, parameters in functions():
            given = arguments(name, parameters)
            wanted = picture(function(*given.values()))
            self.assertEqual(picture(function(**dict(reversed(list(given.items()))))), wanted, name)
            self.assertEqual(picture(function(given.pop("net"), **given)), wanted, name)

    def test_the_values_of_these_calls(self):
        wanted = {
            "keeps": True, "first_broken": None, "is_shown": True,
            "blockers": [], "greatest_rounds": [("a", "c")], "why_not": None, "is_plan": True,
            "by_depth": [("b",), ("c",), ("a",)], "is_fewest": True, "how_many": 2, "plan_at": [("b",), ("a", "c")],
            "cost": 2, "quarrels": [("home", "posts"), ("posts", "rings")], "saved": 1,
            "least_price": 1, "is_late_fault": True, "stands": False, "fewest_standing": None, "most_standing": 0,
            "is_slow": True, "most_hops": 4, "is_hops_paper": True,
            "is_story": True, "stages": [(0, 1), (0, 1, 2)], "known": (("b",), ("a", "b", "c")), "clash": None,
        }
        for function, name, parameters in functions():
            if name in wanted:
                found = function(**arguments(name, parameters))
                self.assertEqual(picture(found), picture(wanted[name]), name)

    def test_lists_and_tuples_give_equal_results(self):
        for function, name, parameters in functions():
            for some in (["rings"], [], ["posts", "home"], ["home", "lost", "posts", "rings"]):
                for net in (triangle(), stuck(), double()):
                    given = arguments(name, parameters)
                    given.update({"net": net, "place": 0} if "place" in given else {"net": net})
                    given.update({key: some for key in ("wishes", "other") if key in given})
                    if name == "plan_at" and plans.how_many(net, some, 2) == 0:
                        continue
                    same = {key: other_kind(value) for key, value in given.items()}
                    self.assertEqual(picture(function(**given)), picture(function(**same)), name)

    def test_the_order_of_wishes_and_keys_has_no_meaning(self):
        tables = double().tables
        turned_keys = {goal: tuple(dict(reversed(list(table.items()))) for table in tables[goal]) for goal in ("h", "g")}
        first, second = Net(tables, ["a", "d"], ["c", "a"]), Net(turned_keys, ("d", "a"), ("c", "a"))
        for function, name, parameters in functions():
            for some in (["rings"], ["rings", "home"], []):
                for wish in ("home", "lost", "posts", "rings"):
                    given = arguments(name, parameters)
                    given.update({key: value for key, value in (("wish", wish), ("wishes", some), ("place", 0)) if key in given})
                    wanted = picture(function(**{**given, "net": first}))
                    if "wishes" in given:
                        given["wishes"] = some[::-1]
                    self.assertEqual(picture(function(**{**given, "net": second})), wanted, name)

    def test_arguments_are_not_changed(self):
        for function, name, parameters in functions():
            for net in nets():
                given = fitted(arguments(name, parameters), net)
                before = picture(given)
                try:
                    function(**given)
                except BadNumber:
                    self.assertEqual(name, "plan_at")
                self.assertEqual(picture(given), before)

    def test_what_is_returned_is_new_at_every_depth(self):
        for function, name, parameters in functions():
            for wish in ("home", "lost", "posts", "rings"):
                for net in nets():
                    given = fitted(arguments(name, parameters), net)
                    given.update({key: value for key, value in
                                  (("lot", net.changing), ("wish", wish), ("wishes", [wish]), ("many", 2), ("place", 0))
                                  if key in given})
                    if name == "plan_at" and plans.how_many(net, [wish], 2) == 0:
                        continue
                    first = function(**given)
                    before = picture(first)
                    spoil(first)
                    self.assertEqual(picture(function(**given)), before, name)
                    self.assertEqual(picture(function(*given.values())), before, name)

    def test_later_changes_of_what_was_passed(self):
        for function, name, parameters in functions():
            given = arguments(name, parameters)
            tables, sources, posts = triangle().tables, ["a"], ["b"]
            given["net"] = Net(tables, sources, posts)
            first = picture(function(**given))
            tables["g"][0]["a"] = None
            sources.append("b")
            posts.clear()
            self.assertEqual(picture(function(**given)), first)
            more = {"wishes": "posts", "other": "posts", "sights": ("g", "c", "b")}
            for key in given:
                if key in more:
                    given[key].append(more[key])
                if key == "plan":
                    given[key][1] = ("c",)
            again = arguments(name, parameters)
            again.update({key: given[key][:] for key in ("wishes", "other", "sights", "plan") if key in given})
            if name != "plan_at":
                self.assertEqual(picture(function(**given)), picture(function(**again)))

    def test_what_was_judged_is_changed(self):
        thing = [("b",), ("a", "c")]
        self.assertIs(plans.is_plan(triangle(), ["rings"], thing), True)
        thing[1] = ("a",)
        self.assertIs(plans.is_plan(triangle(), ["rings"], thing), False)
        thing.append(("c",))
        self.assertIs(plans.is_plan(triangle(), ["rings"], thing), True)
        papers = {"g": {"a": 2, "b": 0, "c": 1}}
        self.assertIs(wishes.is_shown(triangle(), ("b",), ("c",), "rings", ("kept", papers)), True)
        papers["g"]["c"] = 0
        self.assertIs(wishes.is_shown(triangle(), ("b",), ("c",), "rings", ("kept", papers)), False)
        paper = plans.fewest(triangle(), ["rings"])
        self.assertIs(plans.is_fewest(triangle(), ["rings"], paper), True)
        paper[2][("a", "b", "c")] = 3
        self.assertIs(plans.is_fewest(triangle(), ["rings"], paper), False)
        paper[2][("a", "b", "c")] = 2
        paper[1].reverse()
        self.assertIs(plans.is_fewest(triangle(), ["rings"], paper), False)
        self.assertIs(plans.is_fewest(triangle(), ["rings"], plans.fewest(triangle(), ["rings"])), True)

    def test_later_papers_and_stories_are_changed(self):
        plan, sights = [("b",), ("a", "c")], [("g", "a", "b"), ("g", "b", "g")]
        _, heights, packet = paper = slow.hops_paper(triangle(), plan, "g", "a")
        self.assertIs(slow.is_hops_paper(triangle(), plan, "g", "a", paper), True)
        heights[(0, "a")] = 9
        self.assertIs(slow.is_hops_paper(triangle(), plan, "g", "a", paper), False)
        heights[(0, "a")] = 0
        last = packet.pop()
        self.assertIs(slow.is_hops_paper(triangle(), plan, "g", "a", paper), False)
        packet.append(last)
        self.assertIs(slow.is_hops_paper(triangle(), plan, "g", "a", paper), True)
        self.assertIs(slow.is_slow(triangle(), plan, "g", packet), True)
        packet.append(last)
        self.assertIs(slow.is_slow(triangle(), plan, "g", packet), False)
        told = seen.story(triangle(), plan, sights)
        self.assertIs(seen.is_story(triangle(), plan, sights, told), True)
        told[0] = (0, ("b", "a"))
        self.assertIs(seen.is_story(triangle(), plan, sights, told), False)
        self.assertIs(seen.is_story(triangle(), plan, sights, seen.story(triangle(), plan, sights)), True)
        sights.reverse()
        self.assertEqual(seen.stages(triangle(), plan, sights), [(0, 1), (0, 1)])

    def test_keys_ascend(self):
        for net in nets():
            self.assertEqual(list(costs.costs(net)), sorted(costs.costs(net)))
            for wish in ("home", "lost", "posts", "rings"):
                found = plans.fewest(net, [wish])
                if found[0] == "plan":
                    self.assertEqual(list(found[2]), sorted(found[2]))
                word, papers = wishes.shown(net, (), net.changing[:1], wish)
                if word == "kept":
                    self.assertEqual(list(papers), sorted(papers))
                    for paper in papers.values():
                        self.assertEqual(list(paper), sorted(paper))

    def test_turned_nets_and_nets_with_another_way(self):
        net = triangle()
        self.assertEqual(plans.fewest(net, ["posts", "rings"])[1], [("b",), ("c",), ("a",)])
        turned = net.turned()
        self.assertEqual(plans.fewest(turned, ["posts", "rings"])[1], [("a",), ("c",), ("b",)])
        self.assertEqual(blockers.blockers(turned, (), ["rings"]), [("b",)])
        self.assertEqual(plans.by_depth(turned), [("c",), ("b",), ("a",)])
        self.assertIs(wishes.keeps(turned, (), ("c",), ["rings"]), True)
        self.assertIs(wishes.keeps(net, (), ("c",), ["rings"]), False)
        other = net.with_way("g", "c", True, "g")
        self.assertEqual(other.changing, ("a", "b"))
        self.assertEqual(costs.cost(other, ["rings"]), 1)
        self.assertIsNone(costs.cost(other, ["posts"]))
        self.assertEqual(blockers.blockers(other, (), ["posts"]), [("a",)])
        self.assertEqual(plans.by_depth(other), [("b",), ("a",)])
        self.assertEqual(costs.cost(other.with_way("g", "c", True, "b"), ["posts", "rings"]), 3)
        self.assertEqual(costs.cost(net, ["posts", "rings"]), 3)
        self.assertEqual(net, triangle())

    def test_turned_nets_of_one_that_was_asked_for_late_and_slow_packets(self):
        net, plan = pair(), [("a",), ("b",)]
        sights = [("g", "b", "g"), ("g", "b", "a")]
        self.assertEqual(late.least_price(net, ["rings"], plan), 1)
        self.assertEqual(slow.most_hops(net, plan, "g", "a"), 3)
        self.assertEqual(seen.stages(net, plan, sights), [(0, 1), (1, 2)])
        turned = net.turned()
        self.assertEqual(late.least_price(turned, ["rings"], plan), 0)
        self.assertEqual(late.fewest_standing(turned, ["rings"], 0), [("b",), ("a",)])
        self.assertIsNone(slow.most_hops(turned, plan, "g", "a"))
        self.assertEqual(slow.most_hops(turned, plan[::-1], "g", "b"), 3)
        self.assertIsNone(seen.stages(turned, plan, sights))
        other = net.with_way("g", "b", True, None)
        self.assertIsNone(late.least_price(other, ["rings"], plan))
        self.assertEqual(late.most_standing(other, ["rings"]), 6)
        self.assertEqual(slow.most_hops(other, plan, "g", "a"), 2)
        self.assertEqual(slow.slow_fault(other, ["lost"], plan, "g", "b")[0], "lost")
        self.assertIsNone(seen.story(other, plan, sights))
        back = other.with_way("g", "b", True, "a")
        for one in (net, back):
            self.assertEqual(late.least_price(one, ["rings"], plan), 1)
            self.assertEqual(slow.most_hops(one, plan, "g", "a"), 3)
            self.assertEqual(seen.stages(one, plan, sights), [(0, 1), (1, 2)])


if __name__ == "__main__":
    unittest.main()
