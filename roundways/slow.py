"""Slow packets: packets that wait at nodes while the rounds of a plan go on."""

from roundways.late import check_plan, stages_of
from roundways.mixtures import is_count, least_ranks, least_ring, nodes_reached, ways
from roundways.nets import are_different, check_goal, check_net, check_node, is_list
from roundways.wishes import breaks, check_wishes


def is_slow(net, plan, goal, thing):
    """Whether any value is a slow packet."""
    check_net(net)
    check_plan(net, plan)
    check_goal(net, goal)
    return is_packet(net, plan, goal, thing)


def most_hops(net, plan, goal, node):
    """The greatest number of hops of the slow packets from a node, None if there is none."""
    check_asked(net, plan, goal, node)
    paper = paper_for(net, plan, goal, node)
    return hops_of(paper[2]) if paper[0] == "most" else None


def slow_twice(net, plan, goal, node):
    """A slow packet from a node that ends at a node it came to before, with the fewest hops, or None."""
    check_asked(net, plan, goal, node)
    return first_that_breaks(net, "rings", goal, straight_packets(net, plan, goal, node))


def slow_fault(net, wishes, plan, goal, node):
    """The least of the wishes that slow packets from a node break, with one that does, or None."""
    check_net(net)
    check_wishes(wishes)
    check_asked(net, plan, goal, node)
    packets = straight_packets(net, plan, goal, node)
    for wish in sorted(wishes):
        packet = first_that_breaks(net, wish, goal, packets)
        if packet is not None:
            return (wish, packet)
    return None


def hops_paper(net, plan, goal, node):
    """Heights and a packet that show the greatest number of hops, or a packet and a ring that show there is none."""
    check_asked(net, plan, goal, node)
    return paper_for(net, plan, goal, node)


def is_hops_paper(net, plan, goal, node, thing):
    """Whether any value is a paper for hops."""
    check_asked(net, plan, goal, node)
    if not isinstance(thing, tuple) or len(thing) != 3:
        return False
    mixtures = mixtures_of(net, plan, goal)
    if thing[0] == "most":
        _, heights, packet = thing
        if not are_heights(mixtures, goal, node, heights) or not begins_at(net, plan, goal, node, packet):
            return False
        return hops_of(packet) == max(list(heights.values()))
    _, packet, ring = thing
    return thing[0] == "ever" and begins_at(net, plan, goal, node, packet) and is_ring_behind(mixtures, packet, ring)


def paper_for(net, plan, goal, node):
    """The paper for the hops of the slow packets from a node."""
    longest = {node: [(0, node)]}
    heights = {}
    for stage, mixture in enumerate(mixtures_of(net, plan, goal)):
        begun = [place for place in longest if place in mixture]
        part = {place: mixture[place] for place in nodes_reached(mixture, begun)}
        ring = least_ring(part)
        if ring is not None:
            return ever_paper(straight_packets(net, plan, goal, node), stage, ring)
        go_on(longest, stage, part)
        for place in longest:
            heights[(stage, place)] = hops_of(longest[place])
    return ("most", {pair: heights[pair] for pair in sorted(heights)}, max(list(longest.values()), key=len))


def go_on(longest, stage, mixture):
    """Put into the dict from places to longest packets those of one stage, in whose mixture there is no ring."""
    ranks = least_ranks(mixture)
    # Who has the greater rank hands packets on to the others: its own longest packet is found before.
    for _, node in sorted([(-ranks[other], other) for other in mixture]):
        for place in [other for other in mixture[node] if other is not None]:
            if place not in longest or len(longest[place]) <= len(longest[node]):
                longest[place] = [*longest[node], (stage, place)]


def ever_paper(packets, stage, ring):
    """A packet that comes to a ring and goes around once in this stage, and the ring from its last place on."""
    to_ring = [packet for packet in packets if packet[-1][0] <= stage and packet[-1][1] in ring][0]
    at = ring.index(to_ring[-1][1])
    turned = [*ring[at:], *ring[:at]]
    around = [(stage, node) for node in [*turned[1:], turned[0]]]
    return ("ever", [*to_ring, *around], turned)


def straight_packets(net, plan, goal, node):
    """The list of the slow packets from a node that hop as early as they can, and come again only to a last place.

    Shorter ones stand first. Where a slow packet goes, leaving out the loops, there goes one of these.
    """
    mixtures = mixtures_of(net, plan, goal)
    newest = [[(0, node)]]
    found = []
    while newest:
        found.extend(newest)
        newest = [[*packet, pair] for packet in newest for pair in earliest_hops(mixtures, packet)]
    return found


def earliest_hops(mixtures, packet):
    """The list of the next pairs of a packet, each with the first stage that has the way."""
    places = places_of(packet)
    if places[-1] not in mixtures[0] or places[-1] in places[:-1]:
        return []
    firsts = {}
    for stage in range(packet[-1][0], len(mixtures)):
        for place in mixtures[stage][places[-1]]:
            if place not in firsts:
                firsts[place] = stage
    return [(firsts[place], place) for place in firsts]


def first_that_breaks(net, wish, goal, packets):
    """The first one of these packets that breaks the wish, None if none does."""
    for packet in packets:
        if breaks(net, wish, goal, places_of(packet)):
            return packet
    return None


def is_packet(net, plan, goal, value):
    """Whether any value is a slow packet."""
    mixtures = mixtures_of(net, plan, goal)
    if not is_list(value) or len(value) == 0:
        return False
    if not all([is_stage_and_place(mixtures, goal, pair) for pair in value]) or value[0][1] not in net.nodes:
        return False
    if not all([is_hop(mixtures, pair, later) for pair, later in zip(value, value[1:])]):
        return False
    return not turns_back(net, plan, goal, value)


def is_stage_and_place(mixtures, goal, value):
    """Whether any value is a pair of a stage and a place."""
    if not isinstance(value, tuple) or len(value) != 2:
        return False
    stage, place = value
    if not is_count(stage) or stage >= len(mixtures):
        return False
    return place is None or place == goal or place in list(mixtures[0])


def is_hop(mixtures, pair, later):
    """Whether a packet can come from one place to another one, in a stage that is not earlier."""
    stage, place = pair
    later_stage, later_place = later
    return stage <= later_stage and place in mixtures[0] and later_place in mixtures[later_stage][place]


def turns_back(net, plan, goal, packet):
    """Whether a node of a round is left by its new way, and in the same stage by another one later."""
    rounds = stages_of(plan)
    has_changed = {}
    for (_, node), (stage, place) in zip(packet, packet[1:]):
        _, lot = rounds[stage]
        if node in lot:
            if place == net.way(goal, node, True):
                has_changed[(stage, node)] = True
            elif (stage, node) in has_changed:
                return True
    return False


def begins_at(net, plan, goal, node, value):
    """Whether any value is a slow packet that begins at the node."""
    return is_packet(net, plan, goal, value) and value[0][1] == node


def are_heights(mixtures, goal, node, value):
    """Whether any value is a dict of heights for a paper."""
    if not isinstance(value, dict) or (0, node) not in value:
        return False
    for pair, number in value.items():
        if not is_stage_and_place(mixtures, goal, pair) or pair[1] is None or not is_count(number):
            return False
    return all([rises(mixtures, value, pair) for pair in value])


def rises(mixtures, heights, pair):
    """Whether heights have what they must have with one of their pairs."""
    stage, place = pair
    if stage + 1 < len(mixtures) and heights.get((stage + 1, place), -1) < heights[pair]:
        return False
    behind = mixtures[stage][place] if place in mixtures[stage] else []
    return all([heights.get((stage, other), -1) > heights[pair] for other in behind if other is not None])


def is_ring_behind(mixtures, packet, value):
    """Whether any value is a ring of the stage of the last pair of a packet, from its last place on."""
    stage, last = packet[-1]
    mixture = mixtures[stage]
    if not are_different(value, list(mixture)) or len(value) == 0 or value[0] != last:
        return False
    return all([place in mixture[node] for node, place in zip(value, [*value[1:], value[0]])])


def mixtures_of(net, plan, goal):
    """The list of the mixtures of the stages of a plan."""
    return [ways(net, done, lot, goal) for done, lot in stages_of(plan)]


def places_of(packet):
    """The list of the places of a packet."""
    return [place for stage, place in packet]


def hops_of(packet):
    """How many hops a packet has: a packet that is lost does not come to a place."""
    return len([place for place in places_of(packet[1:]) if place is not None])


def check_asked(net, plan, goal, node):
    """Raise the errors of a net, of a plan, of a goal and of a node."""
    check_net(net)
    check_plan(net, plan)
    check_goal(net, goal)
    check_node(net, node)
