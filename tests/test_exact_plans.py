"""The functions of plans.py and costs.py against plain enumerations of all plans."""

import itertools
import random
import unittest

from plain import WISHES, Plain, all_parts, by_length, is_fewest, random_net
from roundways import plans as asked
from roundways.costs import cost, costs, quarrels, saved
from roundways.errors import BadNumber
from roundways.nets import Net, is_sound
from roundways.plans import by_depth, fewest, how_many, is_plan, plan_at


def cases(many, seed, most=5):
    chance = random.Random(seed)
    for _ in range(many):
        net = random_net(chance, most)
        yield chance, net, Plain(net), chance.choice(all_parts(WISHES))


def large_net(chance):
    """A net of two goals and six nodes that change, with sources and posts."""
    net = random_net(chance)
    while len(net.changing) < 6 or len(net.goals) < 2 or not is_sound(net):
        net = random_net(chance)
    return Net(net.tables, net.sources or ["a", "d"], net.posts or ["b"])


def along(nodes):
    """The ways of one path through these nodes to the goal."""
    return dict(zip(nodes, [*nodes[1:], "g"]))


class PlansTest(unittest.TestCase):
    def test_plans_are_counted_and_numbered(self):
        found = []
        for _, net, plain, wishes in cases(120, 1):
            plans = plain.plans(wishes)
            for many in range(7):
                rows = sorted(plan for plan in plans if len(plan) == many)
                self.assertEqual(how_many(net, wishes, many), len(rows))
                self.assertEqual([plan_at(net, wishes, many, at) for at in range(len(rows))], [list(row) for row in rows])
                with self.assertRaises(BadNumber) as caught:
                    plan_at(net, wishes, many, len(rows))
                self.assertEqual(caught.exception.number, len(rows))
            found.append((min([len(plan) for plan in plans], default=None)))
        self.assertTrue({None, 0, 1, 2, 3} <= set(found), set(found))

    def test_any_rounds_are_judged(self):
        judged = []
        for chance, net, plain, wishes in cases(120, 2):
            plans = plain.plans(wishes)
            for plan in chance.sample(plans, min(len(plans), 20)):
                self.assertIs(is_plan(net, wishes, list(plan)), True)
            for _ in range(30):
                nodes = chance.sample(net.changing, len(net.changing))
                rows = [[] for _ in range(chance.randint(0, 3))]
                for node in nodes[:chance.choice((6, 6, 6, 1))]:
                    if rows:
                        chance.choice(rows).append(node)
                thing = [tuple(sorted(row)) for row in rows if row or chance.random() < 0.2]
                self.assertIs(is_plan(net, wishes, thing), tuple(thing) in plans)
                self.assertIs(is_plan(net, wishes, tuple(thing)), tuple(thing) in plans)
                judged.append(tuple(thing) in plans)
        self.assertGreater(judged.count(True), 100)
        self.assertGreater(judged.count(False), 100)

    def test_fewest(self):
        words = []
        for _, net, plain, wishes in cases(150, 3):
            found = fewest(net, wishes)
            self.assertTrue(is_fewest(plain, wishes, found), (net.tables, wishes, found))
            self.assertIs(asked.is_fewest(net, wishes, found), True)
            plans = plain.plans(wishes)
            self.assertEqual(found[0], "plan" if plans else "never")
            if plans:
                self.assertEqual(len(found[1]), min(len(plan) for plan in plans))
                self.assertIs(type(found[1]), list)
                self.assertEqual(list(found[2]), sorted(found[2]))
            words.append(found[0])
        self.assertGreater(words.count("plan"), 20)
        self.assertGreater(words.count("never"), 20)

    def test_changed_papers_are_judged(self):
        told = []
        for chance, net, plain, wishes in cases(150, 4, 4):
            paper = fewest(net, wishes)
            for _ in range(15):
                if paper[0] == "never":
                    lots = list(paper[1])
                    lot = chance.choice(plain.lots())
                    chance.choice((lambda: lots.append(lot), lots.reverse, lambda: lots.remove(chance.choice(lots))))()
                    other = ("never", lots)
                else:
                    numbers, plan = dict(paper[2]), list(paper[1])
                    lot = chance.choice(plain.lots())
                    longer = [list(row) for row in plain.plans(wishes) if len(row) == len(plan) + 1]
                    chance.choice((
                        lambda: numbers.update({lot: numbers.get(lot, 0) + chance.choice((1, -1))}),
                        lambda: numbers.update({lot: chance.choice((0, 1, 2, 3))}),
                        lambda: numbers.pop(lot, None),
                        lambda: plan.reverse(),
                        lambda: plan.__setitem__(slice(None), chance.choice(longer or [plan])),
                    ))()
                    other = ("plan", plan, numbers)
                wanted = is_fewest(plain, wishes, other)
                self.assertIs(asked.is_fewest(net, wishes, other), wanted)
                told.append((paper[0], wanted))
            closed = ("never", plain.lots())
            numbers = ("plan", [plain.changing], {lot: min(len(lot), 1) for lot in plain.lots()})
            for other in (closed, numbers):
                self.assertIs(asked.is_fewest(net, wishes, other), is_fewest(plain, wishes, other))
        for pair in itertools.product(("plan", "never"), (True, False)):
            self.assertGreater(told.count(pair), 50, pair)

    def test_there_is_just_one_of_both_kinds(self):
        for _, net, plain, wishes in cases(80, 5, 3):
            lots = plain.lots()
            if len(lots) > 8:
                continue
            closed = [some for some in all_parts(lots) if asked.is_fewest(net, wishes, ("never", some))]
            plans = plain.plans(wishes)
            self.assertEqual(bool(closed), not plans)
            if plans and len(lots) < 5:
                for numbers in itertools.product((None, 0, 1, 2), repeat=len(lots)):
                    paper = {lot: number for lot, number in zip(lots, numbers) if number is not None}
                    rounds = [len(plan) for plan in plans if asked.is_fewest(net, wishes, ("plan", plan, paper))]
                    # Such numbers are for plans of one number of rounds, and no plan has fewer.
                    self.assertTrue(not rounds or set(rounds) == {min(len(plan) for plan in plans)})

    def test_nets_of_two_goals_and_six_nodes(self):
        chance = random.Random(6)
        found = []
        for _ in range(12):
            net = large_net(chance)
            plain = Plain(net)
            for wishes in (["rings"], ["home"], ["lost", "rings"], ["posts"]):
                plans = plain.plans(wishes)
                paper = fewest(net, wishes)
                self.assertEqual(paper[0], "plan" if plans else "never")
                self.assertIs(asked.is_fewest(net, wishes, paper), True)
                self.assertTrue(is_fewest(plain, wishes, paper) if len(plans) < 500 else paper[1][0])
                least = min([len(plan) for plan in plans], default=None)
                self.assertEqual(cost(net, wishes), least)
                found.append(least)
                for many in range(7):
                    rows = sorted(plan for plan in plans if len(plan) == many)
                    self.assertEqual(how_many(net, wishes, many), len(rows))
                    for at in {0, len(rows) // 3, len(rows) // 2, len(rows) - 1} if rows else ():
                        self.assertEqual(plan_at(net, wishes, many, at), list(rows[at]))
        self.assertTrue({None, 2, 3} <= set(found), found)

    def test_the_turned_net_has_as_many_plans(self):
        for _, net, _, wishes in cases(80, 7):
            for many in range(7):
                many_plans = how_many(net, wishes, many)
                self.assertEqual(how_many(net.turned(), wishes, many), many_plans)
                rows = sorted(plan_at(net, wishes, many, at)[::-1] for at in range(min(many_plans, 200)))
                if many_plans <= 200:
                    self.assertEqual([plan_at(net.turned(), wishes, many, at) for at in range(many_plans)], rows)

    def test_by_depth(self):
        sound = 0
        for _, net, plain, _ in cases(200, 8, 6):
            found = by_depth(net)
            self.assertEqual(found is not None, is_sound(net) and len(net.goals) == 1)
            if found is not None:
                sound += 1
                self.assertIs(is_plan(net, ["home", "lost", "rings"], found), True)
                self.assertTrue(all(plain.is_safe(sum(found[:at], ()), lot, ("home", "lost", "rings"))
                                    for at, lot in enumerate(found)))
        self.assertGreater(sound, 30)

    def test_paths_through_all_nodes(self):
        nodes, seen = "abcde", []
        for order in itertools.permutations(nodes):
            old, new = along(nodes), along(order)
            net = Net({"g": (old, new)})
            led_back = [node for node in nodes
                        if new[node] != "g" and nodes.index(new[node]) < nodes.index(node)
                        and old[node] != "g" and order.index(old[node]) < order.index(node)]
            rounds = cost(net, ["rings"])
            self.assertEqual(rounds >= 3, bool(led_back))
            seen.append(rounds)
        # Two different paths through all nodes need two rounds at least.
        self.assertEqual(set(seen), {0, 2, 3, 4, 5})


class CostsTest(unittest.TestCase):
    def plain_costs(self, plain):
        return {wishes: min([len(plan) for plan in plain.plans(wishes)], default=None) for wishes in all_parts(WISHES)}

    def test_costs_and_quarrels(self):
        seen = []
        for chance, net, plain, wishes in cases(70, 9):
            wanted = self.plain_costs(plain)
            found = costs(net)
            self.assertEqual(found, wanted)
            self.assertEqual(list(found), sorted(wanted))
            self.assertEqual(cost(net, list(wishes[::-1])), wanted[wishes])
            other = chance.choice(all_parts(WISHES))
            none = wanted[wishes] is None or wanted[other] is None
            self.assertEqual(saved(net, wishes, other), None if none else wanted[wishes] - wanted[other])
            for many in (None, *range(7)):
                over = [some for some in wanted if wanted[some] is None or many is not None and wanted[some] > many]
                least = [some for some in over if not any(set(part) < set(some) for part in over)]
                self.assertEqual(quarrels(net, many), by_length(least))
                seen.extend(len(some) for some in least)
        self.assertTrue({0, 1, 2} <= set(seen), set(seen))

    def test_more_wishes_cost_no_less(self):
        for _, net, _, _ in cases(80, 10, 6):
            found = {wishes: 7 if rounds is None else rounds for wishes, rounds in costs(net).items()}
            for wishes, more in itertools.product(found, found):
                if set(wishes) <= set(more):
                    self.assertLessEqual(found[wishes], found[more])
            for rest in all_parts(("lost", "posts")):
                self.assertLessEqual(found[tuple(sorted(("home", *rest)))], found[tuple(sorted((*rest, "rings")))])

    def test_nets_made_of_one_that_was_asked(self):
        for chance, net, _, wishes in cases(40, 11, 4):
            self.assertEqual(costs(net)[wishes], cost(net, wishes))
            goal, node = chance.choice(net.goals), chance.choice(net.nodes)
            place = chance.choice([goal, None, *[other for other in net.nodes if other != node]])
            for other in (net.with_way(goal, node, chance.random() < 0.5, place), net.turned()):
                self.assertEqual(costs(other), self.plain_costs(Plain(other)))
                self.assertTrue(is_fewest(Plain(other), wishes, fewest(other, wishes)))


if __name__ == "__main__":
    unittest.main()
