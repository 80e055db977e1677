"""The functions of seen.py against plain enumerations of all stories."""

import itertools
import random
import unittest

from plain import random_net
from plain_plans import all_states, all_stories, fit_by_bounds, is_seen, is_story, new_in, random_plan
from roundways import seen as asked


def walked(chance, net, plan, many):
    """So many sights, most of which are ways of moments one behind the other."""
    state, sights = (0, ()), []
    for _ in range(many):
        behind = [other for other in all_states(plan)
                  if other[0] > state[0] or (other[0] == state[0] and set(state[1]) <= set(other[1]))]
        state = chance.choice([*behind[:3], chance.choice(behind), state])
        if chance.random() < 0.15:
            state = chance.choice(all_states(plan))
        goal, node = chance.choice(net.goals), chance.choice(net.changing or net.nodes)
        places = [place for place in [*net.nodes, goal, None] if place != node]
        if chance.random() < 0.9:
            places = [place for place in places if is_seen(net, plan, (goal, node, place), state)]
        sights.append((goal, node, chance.choice(places)))
    if chance.random() < 0.2:
        chance.shuffle(sights)
    return sights


def cases(many, seed, most=4, rounds=3, longest=3):
    chance = random.Random(seed)
    for _ in range(many):
        net = random_net(chance, most)
        while not net.changing and chance.random() < 0.9:
            net = random_net(chance, most)
        plan = random_plan(chance, net, rounds)
        yield chance, net, plan, walked(chance, net, plan, chance.randint(0, longest))


class StoriesTest(unittest.TestCase):
    def test_all_stories(self):
        fits = []
        for _, net, plan, sights in cases(400, 1):
            stories = all_stories(net, plan, sights)
            found = asked.story(net, plan, sights)
            if not stories:
                self.assertEqual([found, asked.stages(net, plan, sights), asked.known(net, plan, sights)], [None] * 3)
            else:
                self.assertIn(found, stories)
                self.assertEqual(asked.stages(net, tuple(plan), tuple(sights)),
                                 [tuple(sorted({states[at][0] for states in stories})) for at in range(len(sights))])
                if sights:
                    lots = [new_in(plan, states[-1]) for states in stories]
                    in_each, in_some = set.intersection(*lots), set.union(*lots)
                    self.assertEqual(asked.known(net, plan, sights), (tuple(sorted(in_each)), tuple(sorted(in_some))))
            fits.append(bool(stories))
        self.assertGreater(fits.count(True), 80)
        self.assertGreater(fits.count(False), 30)

    def test_clashes(self):
        found = []
        for _, net, plan, sights in cases(500, 2):
            pairs = itertools.combinations_with_replacement(range(len(sights)), 2)
            wanted = None
            for first, second in pairs:
                some = [sights[first]] if first == second else [sights[first], sights[second]]
                if not all_stories(net, plan, some):
                    wanted = (first, second)
                    break
            self.assertEqual(asked.clash(net, plan, sights), wanted)
            # Sights fit exactly if there is no such pair.
            self.assertEqual(wanted is None, bool(all_stories(net, plan, sights)))
            found.append(wanted)
        self.assertTrue({None, (0, 0), (0, 1), (1, 2), (0, 2)} <= set(found), set(found))

    def test_any_states_are_judged(self):
        judged = []
        for chance, net, plan, sights in cases(250, 3):
            for _ in range(12):
                thing = [chance.choice(all_states(plan)) for _ in sights]
                if chance.random() < 0.7:
                    thing.sort()
                if chance.random() < 0.1:
                    thing.append(chance.choice(all_states(plan)))
                wanted = is_story(net, plan, sights, thing)
                self.assertIs(asked.is_story(net, plan, sights, thing), wanted)
                judged.append(wanted)
            for thing in all_stories(net, plan, sights)[:10]:
                self.assertIs(asked.is_story(net, plan, sights, tuple(thing)), True)
        self.assertGreater(judged.count(True), 300)
        self.assertGreater(judged.count(False), 300)

    def test_large_nets_and_twelve_sights(self):
        fits, many_rounds = [], 0
        chance = random.Random(4)
        for _ in range(120):
            net = random_net(chance)
            while len(net.changing) < 4:
                net = random_net(chance)
            plan = random_plan(chance, net)
            if chance.random() < 0.5:
                plan = [(node,) for node in chance.sample(net.changing, len(net.changing))]
            sights = walked(chance, net, plan, chance.randint(8, 12))
            many_rounds += len(plan) > 3
            fit = fit_by_bounds(net, plan, sights)
            found = asked.story(net, plan, sights)
            self.assertEqual(found is not None, fit)
            self.assertEqual(asked.clash(net, plan, sights) is None, fit)
            fits.append(fit)
            if fit:
                self.assertTrue(is_story(net, plan, sights, found))
                self.assertIs(asked.is_story(net, plan, sights, found), True)
                self.stages_by_narrower_bounds(net, plan, sights)
            else:
                first, second = asked.clash(net, plan, sights)
                some = [sights[first]] if first == second else [sights[first], sights[second]]
                self.assertFalse(fit_by_bounds(net, plan, some))
        self.assertGreater(fits.count(True), 20)
        self.assertGreater(fits.count(False), 20)
        self.assertGreater(many_rounds, 20)

    def stages_by_narrower_bounds(self, net, plan, sights):
        """The stages and the known nodes, each one by whether the sights fit with one more sight."""
        told = asked.stages(net, plan, sights)
        in_each, in_some = asked.known(net, plan, sights)
        for at in range(len(sights)):
            wanted = []
            for stage in range(len(plan) + 1):
                # In this stage all nodes of the rounds ahead have been done, and none of the rounds behind has changed.
                ahead = [self.sight_of(net, node, True) for lot in plan[:stage] for node in lot]
                behind = [self.sight_of(net, node, False) for lot in plan[stage + 1:] for node in lot]
                if fit_by_bounds(net, plan, [*sights[:at], *ahead, *behind, sights[at], *ahead, *behind, *sights[at + 1:]]):
                    wanted.append(stage)
            self.assertEqual(told[at], tuple(wanted))
        for node in [node for lot in plan for node in lot]:
            # Who has changed at the last sight could be seen to have just ahead of it, who has not just behind it.
            is_new = fit_by_bounds(net, plan, [*sights[:-1], self.sight_of(net, node, True), sights[-1]])
            is_old = fit_by_bounds(net, plan, [*sights, self.sight_of(net, node, False)])
            self.assertEqual((node in in_each, node in in_some), (not is_old, is_new))

    def sight_of(self, net, node, is_new):
        """A sight of a node that tells whether it has changed."""
        for goal, tables in net.tables.items():
            if tables[0][node] != tables[1][node]:
                return (goal, node, tables[is_new][node])
        raise AssertionError("the node does not change")


if __name__ == "__main__":
    unittest.main()
