"""The functions of wishes.py and blockers.py against plain enumerations of all moments."""

import itertools
import random
import unittest

from plain import WISHES, Plain, all_parts, are_in_order, is_bad, is_paper, is_shown, random_net, random_round
from roundways import wishes as asked
from roundways.blockers import blockers, greatest_rounds, why_not
from roundways.nets import Net
from roundways.wishes import first_broken, keeps, shown


def cases(many, seed, most=6):
    """Nets with a lot done and a round behind it; the last ones of each net are the first and the greatest round."""
    chance = random.Random(seed)
    for _ in range(many):
        net = random_net(chance, most)
        for done, lot in (random_round(chance, net), random_round(chance, net), ((), ()), ((), net.changing)):
            yield chance, net, done, lot


def walked(chance, net, done, lot, goal, node):
    """The places of a moving packet, of some length."""
    places, changed = [node], []
    for _ in range(chance.randint(1, 20)):
        changed = changed + [other for other in lot if other not in changed and chance.random() < 0.3]
        old, new = net.tables[goal]
        places.append((new if places[-1] in done or places[-1] in changed else old)[places[-1]])
        if places[-1] not in net.nodes:
            break
    return places


class KeptTest(unittest.TestCase):
    def test_keeps_and_first_broken(self):
        kinds = set()
        for _, net, done, lot in cases(150, 1):
            plain = Plain(net)
            for wishes in all_parts(WISHES):
                broken = [wish for wish in wishes if not plain.is_safe(done, lot, [wish])]
                self.assertIs(keeps(net, done, lot, wishes), not broken)
                self.assertEqual(first_broken(net, done, lot, list(wishes[::-1])), min(broken, default=None))
                kinds.add(tuple(broken))
        # Each lot of wishes can be broken alone, but who breaks "home" breaks "rings", too.
        self.assertEqual(kinds & {("home", "rings"), ("lost",), ("posts",), ("rings",), ()},
                         {("home", "rings"), ("lost",), ("posts",), ("rings",), ()})

    def test_what_is_shown(self):
        words = {(word, wish): 0 for word in ("kept", "broken") for wish in WISHES}
        for _, net, done, lot in cases(150, 2):
            plain = Plain(net)
            for wish in WISHES:
                found = shown(net, done, lot, wish)
                self.assertTrue(is_shown(net, done, lot, wish, found), (net.tables, done, lot, wish, found))
                self.assertIs(asked.is_shown(net, done, lot, wish, found), True)
                self.assertEqual(found[0] == "kept", plain.is_safe(done, lot, [wish]))
                if found[0] == "kept":
                    self.assertEqual(list(found[1]), list(net.goals))
                    self.assertTrue(all(list(paper) == sorted(paper) for paper in found[1].values()))
                words[(found[0], wish)] += 1
        self.assertTrue(all(many > 20 for many in words.values()), words)

    def test_changed_papers_are_judged(self):
        told = []
        for chance, net, done, lot in cases(120, 3):
            for wish in WISHES:
                word, papers = shown(net, done, lot, wish)
                if word == "broken":
                    papers = {goal: {node: chance.randint(0, 3) for node in net.nodes} for goal in net.goals}
                for _ in range(12):
                    goal, node = chance.choice(net.goals), chance.choice(net.nodes)
                    other = {name: dict(paper) for name, paper in papers.items()}
                    chance.choice((
                        lambda: other[goal].update({node: other[goal].get(node, 0) + chance.choice((-1, 1, 2, 10 ** 999))}),
                        lambda: other[goal].pop(node, None),
                        lambda: other[goal].update({node: chance.randint(0, 7)}),
                        lambda: other[goal].update({name: other[goal][name] + 1 for name in other[goal]}),
                    ))()
                    wanted = is_shown(net, done, lot, wish, ("kept", other))
                    self.assertIs(asked.is_shown(net, done, lot, wish, ("kept", other)), wanted)
                    told.append((word, wish, wanted))
        for wish in WISHES:
            self.assertIn(("kept", wish, True), told)
            self.assertIn(("kept", wish, False), told)
            self.assertNotIn(("broken", wish, True), told)

    def test_all_moments_and_packets_are_judged(self):
        for _, net, done, lot in cases(60, 4, 4):
            for wish, goal, node in itertools.product(WISHES, net.goals, (*net.nodes, *net.goals, None)):
                for changed in all_parts(net.changing):
                    wanted = (node in net.nodes and set(changed) <= set(lot)
                              and is_bad(net, wish, goal, done + changed, node))
                    found = asked.is_shown(net, done, lot, wish, ("broken", (goal, changed, node)))
                    self.assertIs(found, wanted)

    def test_there_is_just_one_of_both_kinds(self):
        for _, net, done, lot in cases(60, 5, 3):
            for wish in WISHES:
                papers = {goal: self.papers(net, done, lot, wish, goal) for goal in net.goals}
                triples = [triple for triple in itertools.product(net.goals, all_parts(lot), net.nodes)
                           if asked.is_shown(net, done, lot, wish, ("broken", triple))]
                kept = [dict(zip(papers, row)) for row in itertools.product(*papers.values())]
                self.assertEqual(bool(kept), not triples)
                self.assertEqual(keeps(net, done, lot, [wish]), bool(kept))
                for row in kept[:50]:
                    self.assertIs(asked.is_shown(net, done, lot, wish, ("kept", row)), True)

    def papers(self, net, done, lot, wish, goal):
        """All papers with numbers that are as great as they may need be."""
        found = []
        for numbers in itertools.product((None, 0, 1, 2), repeat=len(net.nodes)):
            paper = {node: number for node, number in zip(net.nodes, numbers) if number is not None}
            if is_paper(net, done, lot, wish, goal, paper):
                found.append(paper)
        return found

    def test_a_moving_packet_breaks_no_wish_that_no_moment_breaks(self):
        faults = {wish: 0 for wish in WISHES}
        for chance, net, done, lot in cases(150, 6):
            for goal, node in itertools.product(net.goals, net.nodes):
                for _ in range(6):
                    places = walked(chance, net, done, lot, goal, node)
                    broken = []
                    if len(set(places)) < len(places):
                        broken += ["rings", *(["home"] if node in net.sources else [])]
                    if node in net.sources and None in places:
                        broken.append("lost")
                    if node in net.sources and goal in places and not are_in_order(net.posts, places):
                        broken.append("posts")
                    for wish in broken:
                        faults[wish] += 1
                        self.assertIs(keeps(net, done, lot, [wish]), False)
        self.assertTrue(all(many > 20 for many in faults.values()), faults)

    def test_a_part_of_a_safe_round_is_safe(self):
        for _, net, done, lot in cases(40, 7, 5):
            for wish in WISHES:
                if keeps(net, done, lot, [wish]):
                    for part in all_parts(lot):
                        self.assertIs(keeps(net, done, part, [wish]), True)

    def test_the_same_rounds_are_safe_in_the_turned_net(self):
        for _, net, done, lot in cases(100, 8):
            rest = tuple(node for node in net.changing if node not in done + lot)
            for wish in WISHES:
                self.assertEqual(keeps(net, done, lot, [wish]), keeps(net.turned(), rest, lot, [wish]))

    def test_nets_made_of_one_that_was_asked(self):
        for chance, net, done, lot in cases(60, 9, 5):
            shown(net, done, lot, "rings")
            goal, node = chance.choice(net.goals), chance.choice(net.nodes)
            place = chance.choice([goal, None, *[other for other in net.nodes if other != node]])
            for other in (net.with_way(goal, node, chance.random() < 0.5, place), net.turned()):
                plain = Plain(other)
                some, more = random_round(chance, other)
                for wish in WISHES:
                    self.assertEqual(keeps(other, some, more, [wish]), plain.is_safe(some, more, [wish]))
                    self.assertTrue(is_shown(other, some, more, wish, shown(other, some, more, wish)))


class BlockersTest(unittest.TestCase):
    def test_blockers_and_greatest_rounds(self):
        many = []
        for chance, net, done, lot in cases(120, 10):
            plain = Plain(net)
            for wishes in chance.sample(all_parts(WISHES), 4):
                least, greatest = plain.blockers(done, wishes), plain.greatest(done, wishes)
                self.assertEqual(blockers(net, done, wishes), least)
                self.assertEqual(greatest_rounds(net, done, list(wishes)), greatest)
                many.append((min(len(least), 3), min(len(greatest), 3)))
                within = [part for part in least if set(part) <= set(lot)]
                self.assertEqual(why_not(net, done, lot, wishes), within[0] if within else None)
                self.assertEqual(keeps(net, done, lot, wishes), not within)
                self.assertEqual(keeps(net, done, lot, wishes), any(set(lot) <= set(more) for more in greatest))
        # No blocker, one, and several; no greatest round at all, one, and several.
        self.assertTrue({(0, 1), (1, 0), (2, 1), (1, 2), (2, 2)} <= set(many), set(many))

    def test_what_greatest_rounds_lack(self):
        for _, net, done, _ in cases(60, 11):
            plain = Plain(net)
            for wishes in (["rings"], ["posts"], ["home", "lost"]):
                least = blockers(net, done, wishes)
                rest = plain.left(done)
                hit = [lot for lot in all_parts(rest) if all(set(lot) & set(part) for part in least)]
                lacked = [lot for lot in hit if not any(set(part) < set(lot) for part in hit)]
                wanted = [tuple(node for node in rest if node not in lot) for lot in lacked]
                self.assertEqual(sorted(greatest_rounds(net, done, wishes)), sorted(wanted))

    def test_nets_of_two_goals_and_six_nodes(self):
        chance = random.Random(12)
        for _ in range(15):
            net = random_net(chance)
            while len(net.changing) < 6 or len(net.goals) < 2:
                net = random_net(chance)
            plain = Plain(Net(net.tables, net.nodes, net.posts))
            net = plain.net
            for wishes in (["rings"], ["lost"], ["posts"], ["home"]):
                self.assertEqual(blockers(net, (), wishes), plain.blockers((), wishes))
                self.assertEqual(greatest_rounds(net, (), wishes), plain.greatest((), wishes))


if __name__ == "__main__":
    unittest.main()
