"""What DOC.md says of late nodes, slow packets and sights, word by word, by plain enumeration.

Nothing of the package is used here but nets.
"""

import itertools

from plain import all_parts, is_bad, is_count


def random_plan(chance, net, most=6):
    """Rounds of all changing nodes, or of some of them, in any order."""
    nodes = chance.sample(net.changing, len(net.changing))
    if chance.random() < 0.4:
        nodes = nodes[:chance.randint(0, len(nodes))]
    rows = [[] for _ in range(chance.randint(1, most))]
    for node in nodes:
        chance.choice(rows).append(node)
    return [tuple(sorted(row)) for row in rows if row]


def is_passed(net, plan):
    """Whether a value is a plan that may be passed."""
    changing = [node for node in net.nodes if any(old[node] != new[node] for old, new in net.tables.values())]
    return type(plan) in (list, tuple) and all(
        type(lot) is tuple and lot != () and lot in all_parts(changing)
        and not any(set(lot) & set(other) for other in plan[:at]) for at, lot in enumerate(plan))


def done_in(plan, stage):
    return tuple(sorted(node for lot in plan[:stage] for node in lot))


def lot_in(plan, stage):
    return tuple(plan[stage]) if stage < len(plan) else ()


def all_stages(plan):
    return range(len(plan) + 1)


# Late nodes


def late_faults(net, wish, plan):
    return [(stage, goal, changed, node) for stage in all_stages(plan) for goal in net.tables
            for changed in all_parts(tuple(sorted(done_in(plan, stage) + lot_in(plan, stage))))
            for node in net.nodes if is_bad(net, wish, goal, changed, node)]


def price(plan, fault):
    return len(set(done_in(plan, fault[0])) - set(fault[2]))


def least_price(plain, wishes, plan):
    """The least price of a late fault of a plan of rounds, by the moments alone."""
    prices = [len(set(done_in(plan, stage)) - set(changed)) for stage in all_stages(plan)
              for changed in all_parts(tuple(sorted(done_in(plan, stage) + lot_in(plan, stage))))
              if any(plain.is_bad_at(changed, wish) for wish in wishes)]
    return min(prices, default=None)


# Slow packets


def mixture(net, plan, stage, goal):
    old, new = net.tables[goal]
    return {node: [new[node]] if node in done_in(plan, stage)
            else [old[node], new[node]] if node in lot_in(plan, stage) else [old[node]] for node in net.nodes}


def is_slow(net, plan, goal, thing):
    if type(thing) not in (list, tuple) or len(thing) == 0:
        return False
    places = [*net.nodes, goal, None]
    for pair in thing:
        if type(pair) is not tuple or len(pair) != 2 or not is_count(pair[0]) or pair[0] > len(plan):
            return False
        if pair[1] not in places:
            return False
    if thing[0][1] not in list(net.nodes):
        return False
    for (stage, place), (later, behind) in zip(thing, thing[1:]):
        if stage > later or place not in net.nodes or behind not in mixture(net, plan, later, goal)[place]:
            return False
    new = net.tables[goal][1]
    hops = [(stage, node, place) for (_, node), (stage, place) in zip(thing, thing[1:])]
    for first, second in itertools.combinations(hops, 2):
        if first[:2] == second[:2] and first[1] in lot_in(plan, first[0]):
            if first[2] == new[first[1]] and second[2] != new[first[1]]:
                return False
    return True


def hops(packet):
    return sum(place is not None for _, place in packet[1:])


def next_states(net, plan, goal, state):
    """The states behind one: a stage, a place, and what was left by its new way in this stage."""
    stage, node, left = state
    if node not in net.nodes:
        return
    for later in range(stage, len(plan) + 1):
        for place in mixture(net, plan, later, goal)[node]:
            before = left if later == stage else frozenset()
            if node in lot_in(plan, later):
                if place == net.tables[goal][1][node]:
                    before = before | {node}
                elif node in before:
                    continue
            yield later, place, before


def first_states(plan, node):
    return {(stage, node, frozenset()) for stage in all_stages(plan)}


def most_hops(net, plan, goal, node):
    """The greatest number of hops; who hops more often than there are states can do so for ever."""
    states = sum(len(net.nodes) * 2 ** len(lot_in(plan, stage)) for stage in all_stages(plan))
    newest, many = first_states(plan, node), 0
    while newest and many <= states:
        newest = {later for state in newest for later in next_states(net, plan, goal, state) if later[1] is not None}
        many += 1
    return None if newest else many - 1


def fewest_to_come_twice(net, plan, goal, node):
    """How many hops it takes at least to come to a node a second time, None if no slow packet does."""
    newest, many = {(state, frozenset([node])) for state in first_states(plan, node)}, 0
    while newest:
        many += 1
        later = {(behind, seen) for state, seen in newest for behind in next_states(net, plan, goal, state)}
        if any(behind[1] in seen for behind, seen in later):
            return many
        newest = {(behind, seen | {behind[1]}) for behind, seen in later}
    return None


def slow_wishes(net, plan, goal, node):
    """The wishes that slow packets from the node break."""
    def passed_at(number, place):
        return number + 1 if number < len(net.posts) and net.posts[number] == place else number

    start = {(state, frozenset([node]), False, passed_at(0, node)) for state in first_states(plan, node)}
    known, newest = set(start), start
    while newest:
        newest = {(behind, seen | {behind[1]}, again or behind[1] in seen, passed_at(number, behind[1]))
                  for state, seen, again, number in newest for behind in next_states(net, plan, goal, state)} - known
        known |= newest
    found = set()
    for state, _, again, number in known:
        found |= {"home", "rings"} if again else set()
        found |= {"lost"} if state[1] is None else set()
        found |= {"posts"} if state[1] == goal and number < len(net.posts) else set()
    return sorted(found)


def breaks(net, wish, goal, packet):
    """Whether a slow packet breaks the wish."""
    places = [place for _, place in packet]
    if wish == "lost":
        return None in places
    if wish == "posts":
        return goal in places and tuple(net.posts) not in itertools.combinations(places, len(net.posts))
    return any(places.count(node) > 1 for node in net.nodes)


def is_hops_paper(net, plan, goal, node, thing):
    if type(thing) is not tuple or len(thing) != 3 or thing[0] not in ("most", "ever"):
        return False
    packet = thing[1] if thing[0] == "ever" else thing[2]
    if not is_slow(net, plan, goal, packet) or packet[0][1] != node:
        return False
    if thing[0] == "ever":
        ring = thing[2]
        if type(ring) not in (list, tuple) or len(ring) == 0 or any(other not in list(net.nodes) for other in ring):
            return False
        if len(set(ring)) < len(ring) or ring[0] != packet[-1][1]:
            return False
        ways = mixture(net, plan, packet[-1][0], goal)
        return all(ring[(at + 1) % len(ring)] in ways[other] for at, other in enumerate(ring))
    heights = thing[1]
    if type(heights) is not dict or (0, node) not in heights:
        return False
    for pair, number in heights.items():
        if type(pair) is not tuple or len(pair) != 2 or not is_count(pair[0]) or pair[0] > len(plan):
            return False
        if pair[1] not in [*net.nodes, goal] or not is_count(number):
            return False
    for (stage, place), number in heights.items():
        if stage < len(plan) and not heights.get((stage + 1, place), -1) >= number:
            return False
        for behind in mixture(net, plan, stage, goal)[place] if place in net.nodes else []:
            if behind is not None and not heights.get((stage, behind), -1) > number:
                return False
    return hops(packet) == max(heights.values())


# Sights


def is_seen(net, plan, sight, state):
    goal, node, place = sight
    stage, changed = state
    return net.tables[goal][node in done_in(plan, stage) or node in changed][node] == place


def all_states(plan):
    return [(stage, changed) for stage in all_stages(plan) for changed in all_parts(lot_in(plan, stage))]


def is_story(net, plan, sights, thing):
    if type(thing) not in (list, tuple) or len(thing) != len(sights):
        return False
    for value in thing:
        if type(value) is not tuple or len(value) != 2 or not is_count(value[0]) or value[0] > len(plan):
            return False
        if type(value[1]) is not tuple or value[1] not in all_parts(lot_in(plan, value[0])):
            return False
    for (stage, changed), (later, later_changed) in zip(thing, thing[1:]):
        if stage > later or (stage == later and not set(changed) <= set(later_changed)):
            return False
    return all(is_seen(net, plan, sight, state) for sight, state in zip(sights, thing))


def all_stories(net, plan, sights):
    return [list(thing) for thing in itertools.product(all_states(plan), repeat=len(sights))
            if is_story(net, plan, sights, thing)]


def new_in(plan, state):
    return set(done_in(plan, state[0])) | set(state[1])


def fit_by_bounds(net, plan, sights):
    """Whether sights fit, by the first and the last stage in which each can be, and the order within a stage."""
    least, new_ones = 0, []
    for goal, node, place in sights:
        old, new = net.tables[goal][0][node], net.tables[goal][1][node]
        at = [stage for stage, lot in enumerate(plan) if node in lot]
        if place not in (old, new) or (place != old and not at):
            return False
        if old == new:
            continue
        if place == new:
            least = max(least, at[0])
            new_ones.append(node)
        elif at and (least > at[0] or node in new_ones):
            return False
    return True
