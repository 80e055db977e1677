"""Mixtures: old and new ways side by side while the nodes of a round change."""

from roundways.errors import BadLot
from roundways.nets import check_goal, check_net, check_node, followed, is_list, is_number


def ways(net, done, lot, goal):
    """The dict from the nodes to the places to which they can hand packets on during the round."""
    check_round(net, done, lot, "lot")
    check_goal(net, goal)
    old, new = net.tables[goal]
    mixture = {}
    for node in net.nodes:
        if node in done:
            mixture[node] = [new[node]]
        elif node in lot and old[node] != new[node]:
            mixture[node] = [old[node], new[node]]
        else:
            mixture[node] = [old[node]]
    return mixture


def ring(net, done, lot, goal):
    """The least one of the shortest rings of the mixture, None if there is none."""
    return least_ring(ways(net, done, lot, goal))


def ranks(net, done, lot, goal):
    """The least numbers of the nodes that fall along each way between them, None if there is a ring."""
    return least_ranks(ways(net, done, lot, goal))


def are_ranks(net, done, lot, goal, thing):
    """Whether any value is a dict from all nodes to numbers that fall along each way between them."""
    mixture = ways(net, done, lot, goal)
    if not isinstance(thing, dict) or len(thing) != len(mixture):
        return False
    if not all([node in thing and is_count(thing[node]) for node in mixture]):
        return False
    return all([thing[place] < thing[node] for node in mixture for place in nodes_behind(mixture, node)])


def led(net, done, changed, goal, node):
    """The places that a packet at a node comes to if nothing changes any more."""
    check_round(net, done, changed, "changed")
    check_goal(net, goal)
    check_node(net, node)
    return followed(ways_at(net, done, changed, goal), node)


def is_moving(net, done, lot, goal, node, thing):
    """Whether any value is a moving packet from a node."""
    check_round(net, done, lot, "lot")
    check_goal(net, goal)
    check_node(net, node)
    if not is_list(thing) or len(thing) == 0:
        return False
    if not all([is_place_with_moment(pair, lot) for pair in thing]):
        return False
    first_place, _ = thing[0]
    if first_place != node:
        return False
    return all([goes_on(net, done, goal, pair, later) for pair, later in zip(thing, thing[1:])])


def is_place_with_moment(value, lot):
    """Whether any value is a pair with a moment of the round."""
    return isinstance(value, tuple) and len(value) == 2 and is_lot_of(value[1], lot)


def goes_on(net, done, goal, pair, later):
    """Whether a packet for the goal can come from one place with a moment to another one."""
    place, changed = pair
    later_place, later_changed = later
    if place not in net.nodes or not all([node in later_changed for node in changed]):
        return False
    return later_place == ways_at(net, done, changed, goal)[place]


def reached(net, done, lot, goal, node):
    """The nodes that moving packets from a node come to, whether one gets to the goal, or is lost."""
    mixture = ways(net, done, lot, goal)
    check_node(net, node)
    found = nodes_reached(mixture, [node])
    # A packet along a path without a node twice leaves each node once: some moments allow all its ways.
    ends = [place for begun in found for place in mixture[begun]]
    return (tuple(found), goal in ends, None in ends)


def twice(net, done, lot, goal, node):
    """A shortest moving packet from a node that comes to some node again, None if there is none."""
    mixture = ways(net, done, lot, goal)
    check_node(net, node)
    paths = [(node,)]
    while paths:
        for path in paths:
            for place in mixture[path[-1]]:
                if place in path:
                    return with_moments(net, lot, goal, (*path, place))
        paths = [(*begun, behind) for begun in paths for behind in nodes_behind(mixture, begun[-1])]
    return None


def with_moments(net, lot, goal, places):
    """The moving packet to these places, of which only the last one may come twice."""
    changed = ()
    pairs = []
    for place, later in zip(places, places[1:]):
        # A node changes just before the packet needs its new way, so that no earlier way is barred.
        if place in lot and net.way(goal, place, False) != later:
            changed = joined(changed, (place,))
        pairs.append((place, changed))
    return [*pairs, (places[-1], changed)]


def ways_at(net, done, changed, goal):
    """The dict from the nodes to their ways at a moment behind done."""
    old, new = net.tables[goal]
    return {node: new[node] if node in done or node in changed else old[node] for node in net.nodes}


def nodes_behind(mixture, node):
    """The list of the nodes to which a node can hand packets on."""
    return [place for place in mixture[node] if place in mixture]


def nodes_reached(mixture, starts):
    """The ascending list of the nodes to which packets come from these nodes, and of these."""
    found = sorted(starts)
    for _ in mixture:
        found = sorted(set(found + [place for begun in found for place in nodes_behind(mixture, begun)]))
    return found


def least_ring(mixture):
    """The least one of the shortest rings of the nodes of a mixture, None if there is none."""
    # Shorter paths come first, ascending: the first that closes has no node twice, and is the least ring.
    paths = [(node,) for node in mixture]
    while paths:
        for path in paths:
            if path[0] in mixture[path[-1]]:
                return path
        paths = [(*begun, place) for begun in paths for place in sorted(nodes_behind(mixture, begun[-1]))]
    return None


def least_ranks(mixture):
    """The least numbers that fall along each way between the nodes of a mixture, None if there is a ring."""
    found = {}
    # Without a ring each pass finds the number of one more node at least.
    for _ in mixture:
        for node in mixture:
            below = nodes_behind(mixture, node)
            if all([place in found for place in below]):
                found[node] = max([found[place] + 1 for place in below], default=0)
    if len(found) < len(mixture):
        return None
    return {node: found[node] for node in mixture}


def joined(lot, other):
    """The lot of the nodes of two lots that have no node in common."""
    return tuple(sorted([*lot, *other]))


def parts_of(lot):
    """The list of all parts of a lot, by length: of a round, its moments."""
    parts = [()]
    for node in lot:
        parts = parts + [(*part, node) for part in parts]
    return sorted(parts, key=lambda part: (len(part), part))


def check_lot(net, lot, part):
    """Raise BadLot with this part unless the value is a lot."""
    if not is_lot_of(lot, net.changing):
        raise BadLot(part)


def check_round(net, done, lot, part):
    """Raise the errors of a net, of a lot done, and of a lot of other nodes, which is called part."""
    check_net(net)
    check_lot(net, done, "done")
    check_lot(net, lot, part)
    if any([node in done for node in lot]):
        raise BadLot(part)


def is_lot_of(value, nodes):
    """Whether any value is an ascending tuple of different ones of these nodes."""
    if not isinstance(value, tuple) or not all([node in nodes for node in value]):
        return False
    return value == tuple(sorted(set(value)))


def is_count(value):
    """Whether any value is a number from 0 on."""
    return is_number(value) and value >= 0
