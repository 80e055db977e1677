"""The functions of slow.py against plain enumerations of all slow packets."""

import random
import unittest

import plain_plans
from plain import WISHES, all_parts, random_net
from plain_plans import all_stages, mixture, random_plan
from roundways import slow as asked
from roundways.nets import Net, is_sound


def cases(many, seed, most=4, rounds=3):
    chance = random.Random(seed)
    for _ in range(many):
        net = random_net(chance, most)
        yield chance, net, random_plan(chance, net, rounds), chance.choice(net.goals), chance.choice(net.nodes)


def walked(chance, net, plan, goal, node):
    """A slow packet of some length, now and then with a hop that it cannot do."""
    state = (chance.choice(all_stages(plan)), node, frozenset())
    packet = [state[:2]]
    for _ in range(chance.randint(0, 9)):
        states = list(plain_plans.next_states(net, plan, goal, state))
        if not states:
            break
        state = chance.choice(states)
        packet.append(state[:2])
    if chance.random() < 0.4:
        at = chance.randrange(len(packet))
        packet[at] = chance.choice((
            (packet[at][0], chance.choice([*net.nodes, goal, None])), (chance.randint(-1, len(plan) + 1), packet[at][1])))
    return packet


class SlowTest(unittest.TestCase):
    def test_packets_are_judged(self):
        judged = []
        for chance, net, plan, goal, node in cases(400, 1):
            for _ in range(12):
                packet = walked(chance, net, plan, goal, node)
                wanted = plain_plans.is_slow(net, plan, goal, packet)
                self.assertIs(asked.is_slow(net, plan, goal, packet), wanted, (net.tables, plan, packet))
                judged.append(wanted)
        self.assertGreater(judged.count(True), 1000)
        self.assertGreater(judged.count(False), 500)

    def test_packets_that_go_to_and_fro(self):
        # In mixtures of many ways a node can be left by its new way, and then by another one.
        judged = []
        chance = random.Random(2)
        for _ in range(300):
            nodes, goal = "abc"[:chance.randint(2, 3)], "g"
            tables = [{one: chance.choice([goal, *[other for other in nodes * 2 if other != one]]) for one in nodes} for _ in "on"]
            net = Net({goal: tuple(tables)})
            plan, node = random_plan(chance, net, 2), chance.choice(nodes)
            for _ in range(12):
                packet = [(chance.choice(all_stages(plan)), node)]
                for _ in range(chance.randint(2, 7)):
                    stage, place = packet[-1]
                    later = chance.choice([stage] * 6 + [min(stage + 1, len(plan))])
                    if place in net.nodes:
                        packet.append((later, chance.choice(mixture(net, plan, later, goal)[place])))
                wanted = plain_plans.is_slow(net, plan, goal, packet)
                self.assertIs(asked.is_slow(net, plan, goal, packet), wanted)
                judged.append(wanted)
        self.assertGreater(judged.count(True), 1000)
        self.assertGreater(judged.count(False), 50)


class HopsTest(unittest.TestCase):
    def test_most_hops(self):
        found = []
        for _, net, plan, goal, node in cases(400, 3):
            wanted = plain_plans.most_hops(net, plan, goal, node)
            self.assertEqual(asked.most_hops(net, plan, goal, node), wanted, (net.tables, plan, goal, node))
            paper = asked.hops_paper(net, plan, goal, node)
            self.assertEqual(paper[0], "ever" if wanted is None else "most")
            self.assertTrue(plain_plans.is_hops_paper(net, plan, goal, node, paper))
            self.assertIs(asked.is_hops_paper(net, tuple(plan), goal, node, paper), True)
            if paper[0] == "most":
                self.assertEqual(list(paper[1]), sorted(paper[1]))
                self.assertEqual(max(paper[1].values()), wanted)
            found.append(wanted)
        self.assertTrue({None, 0, 1, 2, 3, 4} <= set(found), set(found))

    def test_there_is_just_one_of_both_kinds(self):
        # A paper that is right is a proof, so the words of all nets, also of large ones, are held to it.
        words = []
        for chance, net, plan, goal, node in cases(300, 4, 6, 6):
            paper = asked.hops_paper(net, plan, goal, node)
            self.assertTrue(plain_plans.is_hops_paper(net, plan, goal, node, paper))
            hops = asked.most_hops(net, plan, goal, node)
            self.assertEqual(hops, plain_plans.hops(paper[2]) if paper[0] == "most" else None)
            words.append((paper[0], len(net.nodes) > 4 and len(plan) > 2))
        for kind in (("most", True), ("ever", True)):
            self.assertGreater(words.count(kind), 10)

    def test_changed_papers_are_judged(self):
        told = []
        for chance, net, plan, goal, node in cases(200, 5):
            paper = asked.hops_paper(net, plan, goal, node)
            for _ in range(12):
                if paper[0] == "most":
                    heights, packet = dict(paper[1]), list(paper[2])
                    key = (chance.choice(all_stages(plan)), chance.choice([*net.nodes, goal]))
                    chance.choice((
                        lambda: heights.update({key: heights.get(key, 0) + chance.choice((1, -1))}),
                        lambda: heights.update({key: chance.choice((0, 0, 1, 2, True))}),
                        lambda: heights.pop(chance.choice(list(heights))),
                        lambda: packet.pop(chance.randrange(len(packet))),
                        lambda: packet.__setitem__(slice(None), walked(chance, net, plan, goal, node)),
                        lambda: heights.update({pair: number + 1 for pair, number in heights.items() if pair != (0, node)}),
                    ))()
                    other = ("most", heights, packet)
                else:
                    packet, ring = list(paper[1]), list(paper[2])
                    chance.choice((
                        ring.reverse, ring.pop, lambda: ring.append(chance.choice(net.nodes)),
                        lambda: ring.append(ring.pop(0)), lambda: packet.pop(),
                        lambda: packet.append((packet[-1][0], ring[1])) or ring.append(ring.pop(0)),
                        lambda: packet.__setitem__(-1, (chance.choice(all_stages(plan)), packet[-1][1])),
                        lambda: packet.__setitem__(slice(None), walked(chance, net, plan, goal, node)),
                    ))()
                    other = ("ever", packet, ring)
                wanted = plain_plans.is_hops_paper(net, plan, goal, node, other)
                self.assertIs(asked.is_hops_paper(net, plan, goal, node, other), wanted, other)
                told.append((paper[0], wanted))
        for kind in (("most", True), ("most", False), ("ever", True), ("ever", False)):
            self.assertGreater(told.count(kind), 50, kind)


class FaultsTest(unittest.TestCase):
    def twice(self, net, plan, goal, node):
        many = plain_plans.fewest_to_come_twice(net, plan, goal, node)
        found = asked.slow_twice(net, plan, goal, node)
        self.assertEqual(found is None, many is None)
        if found is not None:
            self.assertTrue(plain_plans.is_slow(net, plan, goal, found))
            places = [place for _, place in found]
            self.assertEqual((len(found) - 1, places[0]), (many, node))
            self.assertIn(places[-1], places[:-1])
            self.assertEqual(len(set(places[:-1])), len(places) - 1)
        return many

    def fault(self, net, plan, goal, node, wishes, broken):
        found = asked.slow_fault(net, wishes, plan, goal, node)
        self.assertEqual(found is None, not set(wishes) & set(broken))
        if found is not None:
            self.assertEqual(found[0], min(set(wishes) & set(broken)))
            self.assertTrue(plain_plans.is_slow(net, plan, goal, found[1]))
            self.assertEqual(found[1][0][1], node)
            self.assertTrue(plain_plans.breaks(net, found[0], goal, found[1]))

    def test_who_comes_twice(self):
        found = [self.twice(net, plan, goal, node) for _, net, plan, goal, node in cases(500, 6)]
        self.assertTrue({None, 2, 3, 4} <= set(found), set(found))

    def test_wishes_that_slow_packets_break(self):
        seen = set()
        for chance, net, plan, goal, node in cases(250, 7):
            broken = plain_plans.slow_wishes(net, plan, goal, node)
            for wishes in all_parts(WISHES):
                self.fault(net, plan, goal, node, chance.sample(wishes, len(wishes)), broken)
            seen.add(tuple(broken))
        self.assertTrue({(), ("home", "rings"), ("lost",), ("posts",), tuple(WISHES)} <= seen, seen)

    def test_safe_plans_in_which_slow_packets_come_twice(self):
        # Though no round has a ring.
        found = 0
        for _, net, plan, goal, node in cases(1000, 8, 5, 4):
            if is_sound(net) and asked.most_hops(net, plan, goal, node) is not None:
                found += self.twice(net, plan, goal, node) is not None
        self.assertGreater(found, 5)

    def test_large_nets(self):
        chance, done = random.Random(9), 0
        while done < 12:
            net = random_net(chance)
            plan = random_plan(chance, net, 6)
            if len(net.changing) < 6 or len(plan) < 4:
                continue
            done += 1
            for goal in net.goals:
                node = chance.choice(net.nodes)
                self.twice(net, plan, goal, node)
                broken = plain_plans.slow_wishes(net, plan, goal, node)
                self.fault(net, plan, goal, node, WISHES, broken)
                self.fault(net, plan, goal, node, ["rings", "posts"], broken)


if __name__ == "__main__":
    unittest.main()
