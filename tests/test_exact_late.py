"""The functions of late.py against plain enumerations of all lots of changed nodes in all stages, and of all plans."""

import random
import unittest

from plain import WISHES, Plain, all_parts, random_net
from plain_plans import all_stages, is_passed, late_faults, least_price, price, random_plan
from roundways import late as asked
from roundways.nets import Net, is_sound
from roundways.plans import is_plan
from values import costly, fallback


def net_of_few_faults(chance, most):
    """A net whose packets are lost only while several nodes are late, but for one way, which can be another."""
    net = fallback(chance.randint(1, most - 1))
    node = chance.choice(net.nodes)
    place = chance.choice(["g", None, *[other for other in net.nodes if other != node]])
    return net.with_way("g", node, chance.random() < 0.5, place)


def cases(many, seed, most=5):
    chance = random.Random(seed)
    for _ in range(many):
        net = random_net(chance, most) if chance.random() < 0.7 else net_of_few_faults(chance, most)
        yield chance, net, random_plan(chance, net), chance.choice(all_parts(WISHES))


def rounds_by_number(plain, wishes):
    """For each number of late nodes how few rounds the plans have that stand so many, None if there are none."""
    priced = [(len(plan), least_price(plain, wishes, plan)) for plan in plain.plans(wishes)]
    return [min([many for many, least in priced if least is None or least > late], default=None) for late in range(7)]


class FaultsTest(unittest.TestCase):
    def test_the_least_price(self):
        found = []
        for _, net, plan, wishes in cases(250, 1):
            self.assertTrue(is_passed(net, plan))
            faults = [(wish, fault) for wish in wishes for fault in late_faults(net, wish, plan)]
            least = min([price(plan, fault) for _, fault in faults], default=None)
            self.assertEqual(asked.least_price(net, wishes, plan), least)
            told = asked.late_fault(net, list(wishes), tuple(plan))
            self.assertEqual(told is None, least is None)
            if told is not None:
                self.assertIn(told, faults)
                self.assertEqual(price(plan, told[1]), least)
            for many in range(7):
                self.assertIs(asked.stands(net, wishes, plan, many), least is None or least > many)
            found.append(least)
        self.assertTrue({None, 0, 1, 2} <= set(found), set(found))

    def test_all_quadruples_are_judged(self):
        judged = []
        for _, net, plan, _ in cases(60, 2, 4):
            for wish in WISHES:
                faults = late_faults(net, wish, plan)
                for stage in [-1, *all_stages(plan), len(plan) + 1]:
                    for goal in [*net.goals, "z"]:
                        for changed in all_parts(net.changing):
                            for node in net.nodes:
                                thing = (stage, goal, changed, node)
                                self.assertIs(asked.is_late_fault(net, wish, plan, thing), thing in faults)
                                judged.append(thing in faults)
        self.assertGreater(judged.count(True), 500)

    def test_a_list_of_rounds_is_a_plan_exactly_if_it_stands_nothing(self):
        plans = []
        for _, net, plan, wishes in cases(400, 3):
            rest = tuple(node for node in net.changing if not any(node in lot for lot in plan))
            rounds = [*plan, rest] if rest else plan
            self.assertIs(asked.stands(net, wishes, rounds, 0), is_plan(net, wishes, rounds))
            plans.append(is_plan(net, wishes, rounds))
        self.assertGreater(plans.count(True), 50)
        self.assertGreater(plans.count(False), 50)


class StandingTest(unittest.TestCase):
    def held(self, net, wishes):
        plain = Plain(net)
        rounds = rounds_by_number(plain, wishes)
        for many, wanted in enumerate(rounds):
            plan = asked.fewest_standing(net, wishes, many)
            self.assertEqual(plan if plan is None else len(plan), wanted)
            if plan is not None:
                self.assertIn(tuple(plan), plain.plans(wishes))
                least = least_price(plain, wishes, plan)
                self.assertTrue(least is None or least > many)
                self.assertIs(asked.stands(net, wishes, plan, many), True)
        most = max([many for many, wanted in enumerate(rounds) if wanted is not None], default=-1)
        self.assertEqual(asked.most_standing(net, wishes), most)
        return rounds

    def test_fewest_standing_and_most_standing(self):
        seen = [self.held(net, wishes) for _, net, _, wishes in cases(150, 4)]
        mosts = {len([wanted for wanted in rounds if wanted is not None]) - 1 for rounds in seen}
        self.assertTrue({-1, 0, 1, 6} <= mosts, mosts)

    def test_to_stand_more_late_nodes_can_cost_more_rounds(self):
        self.assertEqual(self.held(costly(), ["home"]), [2, 3, None, None, None, None, None])
        self.assertEqual(self.held(costly().turned(), ["home"]), [2, None, None, None, None, None, None])

    def test_six_nodes_of_two_goals(self):
        chance = random.Random(5)
        done = 0
        while done < 8:
            net = random_net(chance)
            if len(net.changing) < 6 or len(net.goals) < 2 or not is_sound(net):
                continue
            net = Net(net.tables, net.sources or ["a", "d"], net.posts)
            for wishes in (["rings"], ["home"], ["lost", "posts"]):
                if len(Plain(net).plans(wishes)) < 700:
                    self.held(net, wishes)
                    done += 1

    def test_plans_of_six_rounds(self):
        chance = random.Random(6)
        for _ in range(20):
            net = random_net(chance)
            while len(net.changing) < 6:
                net = random_net(chance)
            plan = [(node,) for node in chance.sample(net.changing, 6)]
            plain = Plain(net)
            for wishes in all_parts(WISHES):
                self.assertEqual(asked.least_price(net, wishes, plan), least_price(plain, wishes, plan))


if __name__ == "__main__":
    unittest.main()
