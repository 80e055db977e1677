"""A live net: rounds, changes and packets done one by one, and taken back."""

from roundways.blockers import greatest_rounds, nodes_left
from roundways.errors import BadLot, HalfDone, NoPacket, NoRound, NothingDone, NotSo, RoundOpen, Unsafe
from roundways.mixtures import is_count, is_lot_of, joined, reached, twice, ways_at
from roundways.nets import check_goal, check_net, check_node
from roundways.wishes import check_wishes, first_broken


class Block:
    """What stood when a with statement began, and the block around it."""

    def __init__(self, kept, outer):
        self.kept = kept
        self.outer = outer


class Live:
    """A net with wishes, and all that was done with it and stands."""

    # All that can be asked follows from the entries, the deeds with their answers behind them. They are a tuple
    # that is never changed, only exchanged: so taking back, copies and blocks need nothing else.

    def __init__(self, net, wishes):
        check_net(net)
        check_wishes(wishes)
        self._net = net
        self._wishes = tuple(sorted(wishes))
        self._entries = ()
        self._block = None

    def __eq__(self, other):
        return (isinstance(other, Live) and self._net == other._net
                and self._wishes == other._wishes and self._entries == other._entries)

    def __enter__(self):
        self._block = Block(self._entries, self._block)
        return self

    def __exit__(self, kind, value, trace):
        if kind is not None:
            self._entries = self._block.kept
        self._block = self._block.outer

    @property
    def net(self):
        """The net."""
        return self._net

    @property
    def wishes(self):
        """The ascending tuple of the wishes."""
        return self._wishes

    @property
    def done(self):
        """The lot of the nodes that are done."""
        return lots_behind(self._entries)[0]

    @property
    def round(self):
        """The lot of the nodes of the open round, () if none is open."""
        return lots_behind(self._entries)[1]

    @property
    def changed(self):
        """The lot of the nodes of the open round that have changed, () if none is open."""
        return lots_behind(self._entries)[2]

    @property
    def log(self):
        """The list of the deeds that stand."""
        return [entry[:-1] for entry in self._entries]

    def begin(self, nodes):
        """Open a round."""
        done, lot, _ = lots_behind(self._entries)
        if lot:
            raise RoundOpen("a round is open")
        if not is_lot_of(nodes, nodes_left(self._net, done)) or len(nodes) == 0:
            raise BadLot("nodes")
        wish = first_broken(self._net, done, nodes, self._wishes)
        if wish is not None:
            raise Unsafe(wish)
        self._put_down(("begin", nodes, None))

    def change(self, node):
        """Give a node of the open round its new ways."""
        _, lot, changed = lots_behind(self._entries)
        if node not in lot or node in changed:
            raise NotSo(node)
        self._put_down(("change", node, None))

    def put_back(self, node):
        """Give a node that has changed in the open round its old ways again."""
        if node not in lots_behind(self._entries)[2]:
            raise NotSo(node)
        self._put_down(("put back", node, None))

    def close(self):
        """Close the open round: its nodes are done if all have changed, it is given up if none has."""
        _, lot, changed = lots_behind(self._entries)
        if not lot:
            raise NoRound("no round is open")
        if changed not in ((), lot):
            raise HalfDone("some nodes have changed, and others have not")
        self._put_down(("close", None))

    def send(self, goal, node):
        """Let a packet begin at a node; its number is returned."""
        check_goal(self._net, goal)
        check_node(self._net, node)
        number = len(packets_behind(self._entries))
        self._put_down(("send", goal, node, number))
        return number

    def hop(self, packet):
        """Hand a packet on by the ways of now; the place is returned."""
        goal, node = self._packet_at_node(packet)
        done, _, changed = lots_behind(self._entries)
        place = ways_at(self._net, done, changed, goal)[node]
        self._put_down(("hop", packet, place))
        return place

    def undo(self):
        """Take back the last deed that stands."""
        if not self._entries:
            raise NothingDone("nothing was done")
        self._entries = self._entries[:-1]

    def passed(self, packet):
        """The list of the places of a packet up to now."""
        _, places = self._packet(packet)
        return places

    def fates(self, packet):
        """The ascending tuple of what can become of a packet while nodes of the open round change."""
        goal, node = self._packet_at_node(packet)
        done, lot, changed = lots_behind(self._entries)
        still_old = tuple([other for other in lot if other not in changed])
        now_new = joined(done, changed)
        _, to_goal, to_none = reached(self._net, now_new, still_old, goal, node)
        to_ring = twice(self._net, now_new, still_old, goal, node) is not None
        return tuple([word for word, can_be in (("goal", to_goal), ("lost", to_none), ("ring", to_ring)) if can_be])

    def next_rounds(self):
        """The greatest rounds that can begin now, none if one is open."""
        done, lot, _ = lots_behind(self._entries)
        return [] if lot else greatest_rounds(self._net, done, self._wishes)

    def tried(self, work):
        """What a function returns for the live net; all is as before if it raises an error."""
        with self as same:
            return work(same)

    def copy(self):
        """An independent live net, in no block."""
        other = Live(self._net, self._wishes)
        other._entries = self._entries
        return other

    def _put_down(self, entry):
        """Put an entry behind those that stand."""
        self._entries = (*self._entries, entry)

    def _packet(self, packet):
        """The goal and the places of the packet with this number."""
        packets = packets_behind(self._entries)
        if not is_count(packet) or packet >= len(packets):
            raise NoPacket(packet)
        return packets[packet]

    def _packet_at_node(self, packet):
        """The goal and the node of the packet with this number."""
        goal, places = self._packet(packet)
        if places[-1] not in self._net.nodes:
            raise NoPacket(packet)
        return (goal, places[-1])


def lots_behind(entries):
    """The nodes that are done behind these entries, those of the open round, and those of them that have changed."""
    done, lot, changed = (), (), ()
    for entry in entries:
        if entry[0] == "begin":
            lot = entry[1]
        elif entry[0] == "change":
            changed = joined(changed, (entry[1],))
        elif entry[0] == "put back":
            changed = tuple([node for node in changed if node != entry[1]])
        elif entry[0] == "close":
            # All nodes of the round have changed, or none has: then it is given up.
            done, lot, changed = joined(done, changed), (), ()
    return (done, lot, changed)


def packets_behind(entries):
    """The list of the pairs of the goal and the places of the packets that were sent, behind these entries."""
    packets = []
    for entry in entries:
        if entry[0] == "send":
            packets.append((entry[1], [entry[2]]))
        elif entry[0] == "hop":
            packets[entry[1]][1].append(entry[2])
    return packets
