"""What DOC.md says of live nets, word by word: what stands behind a row of deeds, and which deed is refused.

Nothing of the package is used here but nets and errors.
"""

from plain import WISHES, Plain, all_parts
from roundways.errors import (BadLot, HalfDone, NoGoal, NoNode, NoPacket, NoRound, NotSo, NothingDone, RoundOpen,
                              Unsafe)
from values import any_values


class Behind:
    """What stands behind a row of deeds."""

    def __init__(self, net, deeds):
        self.net, self.deeds = net, list(deeds)
        self.done, self.round, self.changed, self.packets = set(), set(), set(), []
        for deed in deeds:
            self.answer = self.go_on(*deed)

    def go_on(self, word, *rest):
        if word == "begin":
            self.round = set(rest[0])
        elif word == "change":
            self.changed = self.changed | {rest[0]}
        elif word == "put back":
            self.changed = self.changed - {rest[0]}
        elif word == "close":
            if self.changed == self.round:
                self.done = self.done | self.round
            self.round, self.changed = set(), set()
        elif word == "send":
            self.packets.append((rest[0], [rest[1]]))
            return len(self.packets) - 1
        else:
            goal, places = self.packets[rest[0]]
            places.append(self.net.tables[goal][places[-1] in self.done | self.changed][places[-1]])
            return places[-1]
        return None

    def lots(self):
        return [tuple(sorted(lot)) for lot in (self.done, self.round, self.changed)]

    def at_node(self, packet):
        return type(packet) is int and 0 <= packet < len(self.packets) and self.packets[packet][1][-1] in self.net.nodes

    def refusal(self, wishes, word, *rest):
        """The error and its attribute with which a deed is refused, None if it is not; ("undo",) counts as one."""
        plain = Plain(self.net)
        if word == "undo":
            return None if self.deeds else (NothingDone, ...)
        if word == "begin":
            if self.round:
                return RoundOpen, ...
            if rest[0] not in all_parts(plain.left(tuple(self.done)))[1:] or type(rest[0]) is not tuple:
                return BadLot, "nodes"
            broken = [wish for wish in wishes if not plain.is_safe(tuple(self.done), rest[0], [wish])]
            return (Unsafe, min(broken)) if broken else None
        if word == "change":
            return None if rest[0] in list(self.round - self.changed) else (NotSo, rest[0])
        if word == "put back":
            return None if rest[0] in list(self.changed) else (NotSo, rest[0])
        if word == "close":
            if not self.round:
                return NoRound, ...
            return None if self.changed in (self.round, set()) else (HalfDone, ...)
        if word == "send":
            if rest[0] not in list(self.net.goals):
                return NoGoal, rest[0]
            return None if rest[1] in list(self.net.nodes) else (NoNode, rest[1])
        return None if self.at_node(rest[0]) else (NoPacket, rest[0])

    def fates(self, packet):
        """What can become of a packet, by all moments to come."""
        goal, places = self.packets[packet]
        newest = {(places[-1], frozenset(self.changed), frozenset([places[-1]]))}
        found, known = set(), set()
        while newest:
            known |= newest
            later = set()
            for node, changed, seen in newest:
                later |= {(node, changed | {other}, seen) for other in self.round - changed}
                place = self.net.tables[goal][node in self.done | changed][node]
                if place in (None, goal):
                    found.add("lost" if place is None else "goal")
                    continue
                found |= {"ring"} if place in seen else set()
                later.add((place, changed, seen | {place}))
            newest = later - known
        return tuple(sorted(found))

    def next_rounds(self, wishes):
        return [] if self.round else Plain(self.net).greatest(tuple(sorted(self.done)), wishes)


def random_wishes(chance):
    return chance.sample(WISHES, chance.choice((0, 0, 1, 1, 2, 4)))


def random_deed(chance, behind):
    """A deed, an undo or, now and then, something that is refused."""
    net, word = behind.net, chance.choice(("begin", "change", "change", "put back", "close", "send", "hop", "hop", "undo"))
    if chance.random() < 0.1:
        value = chance.choice(any_values())
        return {"begin": ("begin", value), "change": ("change", value), "put back": ("put back", value), "close": ("close",),
                "send": chance.choice((("send", value, net.nodes[0]), ("send", net.goals[0], value), ("send", value, value))),
                "hop": ("hop", value), "undo": ("undo",)}[word]
    nodes = net.changing if chance.random() < 0.3 else sorted(behind.round) or net.nodes
    if word == "begin":
        left = [node for node in net.changing if node not in behind.done or chance.random() < 0.1]
        lot = tuple(node for node in left if chance.random() < 0.5) or tuple(left[:1])
        return ("begin", lot if chance.random() < 0.95 else lot[::-1])
    if word in ("change", "put back"):
        return (word, chance.choice(nodes or net.nodes))
    if word == "send":
        return ("send", chance.choice(net.goals), chance.choice(net.nodes))
    if word == "hop":
        return ("hop", chance.randint(0, len(behind.packets)))
    return (word,)


def do(live, word, *rest):
    """What a live net returns for a deed, or for an undo."""
    return getattr(live, word.replace(" ", "_"))(*rest)
