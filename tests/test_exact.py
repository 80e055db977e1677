"""The functions of mixtures.py against plain enumerations of rings, walks and moving packets."""

import itertools
import random
import unittest

from roundways.mixtures import are_ranks, is_moving, led, ranks, reached, ring, twice, ways
from roundways.nets import Net, depths, is_sound


def made_net(chance):
    nodes = "abcdef"[:chance.randint(1, 6)]
    tables = {}
    for goal in chance.choice((["g"], ["g", "h"])):
        pair = []
        for _ in range(2):
            table = {}
            for node in nodes:
                places = [other for other in nodes if other != node] + [goal]
                table[node] = chance.choice(places + [None] if chance.random() < 0.3 else places)
            pair.append(table)
        tables[goal] = tuple(pair)
    return Net(tables, [node for node in nodes if chance.random() < 0.4], chance.sample(nodes, min(len(nodes), 1)))


def made_round(chance, net):
    parts = {node: chance.randint(0, 2) for node in net.changing}
    return tuple([tuple(sorted(node for node in parts if parts[node] == part)) for part in (1, 2)])


def parts_of(lot):
    return [part for many in range(len(lot) + 1) for part in itertools.combinations(lot, many)]


def least_ring(mixture):
    for many in range(1, len(mixture) + 1):
        rings = [nodes for nodes in itertools.permutations(mixture, many)
                 if nodes[0] == min(nodes)
                 and all(nodes[(at + 1) % many] in mixture[nodes[at]] for at in range(many))]
        if rings:
            return min(rings)
    return None


def longest_walk(mixture, node):
    return max([1 + longest_walk(mixture, place) for place in mixture[node] if place in mixture], default=0)


def packets(net, done, lot, goal, node):
    """All moving packets from the node of which at most the last place came before, one place after the other."""
    rows = [[(node, moment)] for moment in parts_of(lot)]
    while rows:
        yield from rows
        longer = []
        for row in rows:
            place, changed = row[-1]
            if place in net.nodes and place not in [before for before, _ in row[:-1]]:
                later = net.way(goal, place, place in done or place in changed)
                longer.extend(row + [(later, moment)] for moment in parts_of(lot) if set(changed) <= set(moment))
        rows = longer


class ExactTest(unittest.TestCase):
    def cases(self, many, seed):
        chance = random.Random(seed)
        for _ in range(many):
            net = made_net(chance)
            done, lot = made_round(chance, net)
            for goal in net.goals:
                yield net, done, lot, goal

    def test_ways_rings_and_ranks(self):
        for net, done, lot, goal in self.cases(400, 1):
            mixture = ways(net, done, lot, goal)
            for node in net.nodes:
                moments = [net.way(goal, node, node in done + part) for part in parts_of(lot)]
                self.assertEqual(mixture[node], list(dict.fromkeys(moments)))
            found = ring(net, done, lot, goal)
            self.assertEqual(found, least_ring(mixture))
            numbers = ranks(net, done, lot, goal)
            self.assertEqual(numbers is None, found is not None)
            if numbers is not None:
                self.assertEqual(numbers, {node: longest_walk(mixture, node) for node in net.nodes})
                self.assertIs(are_ranks(net, done, lot, goal, numbers), True)
                for node in net.nodes:
                    lesser = dict(numbers)
                    lesser[node] -= 1
                    self.assertIs(are_ranks(net, done, lot, goal, lesser), False)

    def test_moving_packets(self):
        for net, done, lot, goal in self.cases(60, 2):
            if len(lot) > 3:
                continue
            for node in net.nodes:
                rows = list(packets(net, done, lot, goal, node))
                places = {place for row in rows for place, _ in row}
                nodes, is_home, is_lost = reached(net, done, lot, goal, node)
                self.assertEqual(nodes, tuple(sorted(place for place in places if place in net.nodes)))
                self.assertEqual((is_home, is_lost), (goal in places, None in places))
                again = [len(row) for row in rows if row[-1][0] in [place for place, _ in row[:-1]]]
                found = twice(net, done, lot, goal, node)
                self.assertEqual(len(found) if found else None, min(again, default=None))
                if found:
                    self.assertIn(found, rows)
                for row in rows[:40]:
                    self.assertIs(is_moving(net, done, lot, goal, node, row), True)

    def test_changed_packets_are_judged(self):
        chance = random.Random(3)
        for net, done, lot, goal in self.cases(40, 4):
            if len(lot) > 2:
                continue
            node = net.nodes[0]
            rows = list(packets(net, done, lot, goal, node))
            for row in rows[:10]:
                at = chance.randrange(len(row))
                for place in (*net.nodes, goal, None):
                    for moment in parts_of(net.changing):
                        other = row[:at] + [(place, moment)] + row[at + 1:]
                        if len({pair[0] for pair in other[:-1]}) == len(other) - 1:
                            self.assertIs(is_moving(net, done, lot, goal, node, other), other in rows)

    def test_led(self):
        for net, done, lot, goal in self.cases(60, 5):
            for node in net.nodes:
                looped = False
                for moment in parts_of(lot):
                    places = led(net, done, moment, goal, node)
                    self.assertEqual(places[0], node)
                    for place, later in zip(places, places[1:]):
                        self.assertEqual(later, net.way(goal, place, place in done + moment))
                    self.assertEqual(len(set(places[:-1])), len(places) - 1)
                    ends = places[-1] in places[:-1]
                    self.assertTrue(ends or places[-1] in (goal, None))
                    looped = looped or ends
                self.assertEqual(looped, twice(net, done, lot, goal, node) is not None)

    def test_depths_and_soundness(self):
        for net, _, _, goal in self.cases(200, 6):
            for is_new, done in ((False, ()), (True, net.changing)):
                found = {}
                for node in net.nodes:
                    places = led(net, done, (), goal, node)
                    found[node] = len(places) - 1 if places[-1] == goal else None
                self.assertEqual(depths(net, goal, is_new), found)
            sound = all(None not in depths(net, other, is_new).values() for other in net.goals for is_new in (True, False))
            self.assertIs(is_sound(net), sound)
            self.assertEqual(depths(net.turned(), goal, True), depths(net, goal, False))

    def test_the_turned_net_has_the_same_mixtures(self):
        for net, done, lot, goal in self.cases(100, 7):
            rest = tuple(node for node in net.changing if node not in done + lot)
            same, turned = ways(net, done, lot, goal), ways(net.turned(), rest, lot, goal)
            self.assertEqual({node: places[::-1] for node, places in turned.items()}, same)
            self.assertEqual(ring(net, done, lot, goal), ring(net.turned(), rest, lot, goal))


if __name__ == "__main__":
    unittest.main()
