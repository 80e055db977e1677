"""Live nets and journals against a plain run of the deeds that stand."""

import random
import unittest

from plain import random_net
from plain_live import Behind, do, random_deed, random_wishes
from roundways.blockers import greatest_rounds
from roundways.errors import BadJournal, WayError
from roundways.journals import first_wrong, replayed
from roundways.live import Live
from roundways.nets import Net
from values import any_values, picture, told_by


class Left(Exception):
    """Raised to leave a block."""


def no_wish_net(chance, most=6):
    """A net with sources, so that wishes can be broken."""
    net = random_net(chance, most)
    while not net.changing:
        net = random_net(chance, most)
    return Net(net.tables, net.sources or net.nodes[:1], net.posts)


def fresh(net, wishes, deeds):
    """A live net that did these deeds and nothing else."""
    live = Live(net, wishes)
    for deed in deeds:
        do(live, *deed)
    return live


class RunsTest(unittest.TestCase):
    def held(self, live, net, wishes, deeds):
        """All that the live net tells is what a plain run of the deeds tells."""
        behind = Behind(net, deeds)
        self.assertEqual((live.net, live.wishes, live.log), (net, tuple(sorted(wishes)), deeds))
        self.assertEqual([live.done, live.round, live.changed], behind.lots())
        for number, (_, places) in enumerate(behind.packets):
            self.assertEqual(live.passed(number), places)
            if behind.at_node(number):
                self.assertEqual(live.fates(number), behind.fates(number))
        self.assertEqual(live.next_rounds(), behind.next_rounds(wishes))
        return behind

    def step(self, chance, live, net, wishes, deeds):
        """One deed or undo, which the live net does as a plain run does it, or refuses."""
        behind = Behind(net, deeds)
        deed = random_deed(chance, behind)
        if deed[0] in ("begin", "change", "close") and len(deeds) > 57:
            return
        wanted = behind.refusal(wishes, *deed)
        if wanted is None:
            answer = do(live, *deed)
            if deed[0] == "undo":
                deeds.pop()
                self.assertIsNone(answer)
            else:
                deeds.append(deed)
                self.assertEqual(picture(answer), picture(Behind(net, deeds).answer))
            self.counts[deed[0]] = self.counts.get(deed[0], 0) + 1
        else:
            before = picture(live)
            with self.assertRaises(WayError) as caught:
                do(live, *deed)
            error, told = wanted
            self.assertEqual(told_by(caught.exception), (error, None if told is ... else picture(told)), deed)
            self.assertEqual(picture(live), before)
            self.counts[error.__name__] = self.counts.get(error.__name__, 0) + 1

    def session(self, chance, live, net, wishes, deeds, deep=0):
        """A row of deeds, undos, nested blocks, tried and copies."""
        for _ in range(chance.randint(4, 14)):
            self.step(chance, live, net, wishes, deeds)
            if deep < 3 and chance.random() < 0.2:
                self.block(chance, live, net, wishes, deeds, deep)
            if chance.random() < 0.1:
                self.copies(chance, live, net, wishes, deeds)
        self.held(live, net, wishes, deeds)
        self.assertEqual(live, fresh(net, wishes, deeds))

    def block(self, chance, live, net, wishes, deeds, deep):
        """A block, or tried, that is left by an exception or not."""
        before, is_left = list(deeds), chance.random() < 0.5

        def work(same):
            self.assertIs(same, live)
            self.session(chance, same, net, wishes, deeds, deep + 1)
            if is_left:
                raise Left
            return ["what", "work", "returns"]

        try:
            if chance.random() < 0.5:
                self.assertEqual(live.tried(work), ["what", "work", "returns"])
            else:
                with live as same:
                    work(same)
            self.assertFalse(is_left)
        except Left:
            self.assertTrue(is_left)
            deeds[:] = before
        self.held(live, net, wishes, deeds)

    def copies(self, chance, live, net, wishes, deeds):
        """A copy goes its own way, in both directions."""
        other, others = live.copy(), list(deeds)
        self.assertEqual(other, live)
        for _ in range(4):
            self.step(chance, other, net, wishes, others)
        self.held(other, net, wishes, others)
        self.held(live, net, wishes, deeds)
        self.step(chance, live, net, wishes, deeds)
        self.held(other, net, wishes, others)
        self.assertEqual(other == live, deeds == others)

    def test_rows_of_deeds(self):
        self.counts = {}
        chance = random.Random(1)
        for _ in range(120):
            net, wishes = no_wish_net(chance, chance.choice((2, 4, 6))), random_wishes(chance)
            self.session(chance, Live(net, wishes), net, wishes, [])
        for word in ("begin", "change", "put back", "close", "send", "hop", "undo", "RoundOpen", "BadLot", "Unsafe", "NotSo",
                     "NoRound", "HalfDone", "NoGoal", "NoNode", "NoPacket", "NothingDone"):
            self.assertGreater(self.counts.get(word, 0), 5, word)

    def test_all_fates(self):
        chance, seen = random.Random(2), set()
        for _ in range(150):
            net = no_wish_net(chance)
            live, deeds = Live(net, []), []
            for _ in range(20):
                self.step_without_undo(chance, live, net, deeds)
            behind = self.held(live, net, [], deeds)
            seen |= {behind.fates(number) for number in range(len(behind.packets)) if behind.at_node(number)}
        self.assertTrue({("goal",), ("lost",), ("ring",), ("goal", "lost"), ("goal", "ring")} <= seen, seen)

    def step_without_undo(self, chance, live, net, deeds):
        behind = Behind(net, deeds)
        deed = random_deed(chance, behind)
        if deed[0] != "undo" and behind.refusal([], *deed) is None:
            do(live, *deed)
            deeds.append(deed)

    def test_sixty_deeds(self):
        chance = random.Random(3)
        for _ in range(6):
            net = no_wish_net(chance)
            live, deeds = Live(net, []), []
            while len(deeds) < 60:
                self.step_without_undo(chance, live, net, deeds)
            self.held(live, net, [], deeds)
            self.assertEqual(len(live.log), 60)
            self.assertEqual(fresh(net, [], deeds), live)
            while deeds:
                live.undo()
                deeds.pop()
                self.assertEqual(live.log, deeds)
                if len(deeds) % 7 == 0:
                    self.held(live, net, [], deeds)
            self.assertEqual(live, Live(net, []))

    def test_next_rounds_are_the_greatest_rounds(self):
        chance = random.Random(4)
        for _ in range(80):
            net, wishes = no_wish_net(chance), random_wishes(chance)
            live, done = Live(net, wishes), ()
            while live.next_rounds() not in ([], [()]):
                rounds = live.next_rounds()
                self.assertEqual(rounds, greatest_rounds(net, done, wishes))
                lot = chance.choice(rounds)
                live.begin(lot)
                self.assertEqual(live.next_rounds(), [])
                for node in chance.sample(lot, len(lot)):
                    live.change(node)
                live.close()
                done = tuple(sorted(done + lot))
            self.assertEqual(live.next_rounds(), greatest_rounds(net, done, wishes))


class JournalsTest(unittest.TestCase):
    def journal(self, chance, net, wishes, longest):
        """Entries of a live net, and the live net."""
        live, deeds, entries = Live(net, wishes), [], []
        while len(entries) < longest:
            behind = Behind(net, deeds)
            deed = random_deed(chance, behind)
            if chance.random() < 0.1:
                entries.append(("done", live.done))
            elif behind.refusal(wishes, *deed) is None:
                answer = do(live, *deed)
                entries.append(deed if deed == ("undo",) else (*deed, answer))
                deeds = live.log
        return entries, live

    def by_hand(self, net, wishes, journal):
        """The index of the first wrong entry, by a live net that does one by one what plain words allow."""
        live = Live(net, wishes)
        for at, entry in enumerate(journal):
            if type(entry) is not tuple or not entry or type(entry[0]) is not str:
                return at
            if entry[0] == "done":
                if len(entry) != 2 or picture(entry[1]) != picture(live.done):
                    return at
                continue
            many = {"begin": 2, "change": 2, "put back": 2, "close": 1, "send": 3, "hop": 2, "undo": 1}.get(entry[0])
            deed = entry if entry[0] == "undo" else entry[:-1]
            if many != len(deed) or Behind(net, live.log).refusal(wishes, *deed) is not None:
                return at
            answer = do(live, *deed)
            if entry[0] != "undo" and picture(answer) != picture(entry[-1]):
                return at
        return None

    def test_journals_that_are_right(self):
        chance = random.Random(5)
        for _ in range(80):
            net, wishes = no_wish_net(chance), random_wishes(chance)
            entries, live = self.journal(chance, net, wishes, chance.randint(0, 40))
            for journal in (entries, tuple(entries)):
                before = picture(journal)
                self.assertIsNone(first_wrong(net, wishes, journal))
                self.assertEqual(replayed(net, wishes, journal), live)
                self.assertEqual(picture(replayed(net, tuple(wishes), journal)), picture(live))
                self.assertEqual(picture(journal), before)

    def test_journals_that_were_changed(self):
        chance, found = random.Random(6), []
        for _ in range(250):
            net, wishes = no_wish_net(chance, 4), random_wishes(chance)
            entries, _ = self.journal(chance, net, wishes, chance.randint(1, 25))
            for _ in range(8):
                journal, at = list(entries), chance.randrange(len(entries))
                entry = journal[at]
                values = [None, True, False, 0, 1, *net.nodes, *net.goals, net.nodes, (), chance.choice(any_values())]
                place = chance.randrange(len(entry))
                journal[at] = chance.choice((
                    list(entry), entry[:-1], (*entry, None), ("undo",), ("close", None), chance.choice(values), chance.choice(entries),
                    (*entry[:place], chance.choice(values), *entry[place + 1:]), (*entry[:-1], chance.choice(values))))
                if chance.random() < 0.2:
                    del journal[at]
                wanted = self.by_hand(net, wishes, journal)
                self.assertEqual(first_wrong(net, wishes, journal), wanted, journal)
                if wanted is None:
                    self.assertIsInstance(replayed(net, wishes, journal), Live)
                else:
                    self.assertIs(type(first_wrong(net, wishes, journal)), int)
                    with self.assertRaises(BadJournal) as caught:
                        replayed(net, wishes, journal)
                    self.assertEqual(caught.exception.at, wanted)
                found.append(wanted)
        self.assertGreater(found.count(None), 100)
        self.assertGreater(len(set(found)), 15)


if __name__ == "__main__":
    unittest.main()
