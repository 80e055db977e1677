"""Wishes: what must not become of packets, at whatever moment of a round."""

from roundways.errors import BadWish, BadWishes
from roundways.mixtures import (check_round, is_count, is_lot_of, joined, least_ranks, nodes_behind, nodes_reached,
                                parts_of, ways, ways_at)
from roundways.nets import are_different, followed

WISHES = ("home", "lost", "posts", "rings")


def keeps(net, done, lot, wishes):
    """Whether the round is safe for the wishes."""
    check_round(net, done, lot, "lot")
    check_wishes(wishes)
    return is_safe(net, done, lot, wishes)


def first_broken(net, done, lot, wishes):
    """The least of the wishes that the round breaks, None if it breaks none."""
    check_round(net, done, lot, "lot")
    check_wishes(wishes)
    for wish in sorted(wishes):
        if first_fault(net, done, lot, wish) is not None:
            return wish
    return None


def shown(net, done, lot, wish):
    """Papers that show that the wish is kept, or a moment and a packet that break it."""
    check_round(net, done, lot, "lot")
    check_wish(wish)
    fault = first_fault(net, done, lot, wish)
    if fault is not None:
        return ("broken", fault)
    return ("kept", {goal: kept_paper(net, done, lot, wish, goal) for goal in net.goals})


def is_shown(net, done, lot, wish, thing):
    """Whether any value shows that the wish is kept or broken."""
    check_round(net, done, lot, "lot")
    check_wish(wish)
    if not isinstance(thing, tuple) or len(thing) != 2:
        return False
    word, proof = thing
    if word == "kept":
        return are_papers(net, done, lot, wish, proof)
    return word == "broken" and is_fault(net, done, lot, wish, proof)


def is_safe(net, done, lot, wishes):
    """Whether the round keeps each of the wishes."""
    return all([first_fault(net, done, lot, wish) is None for wish in wishes])


def first_fault(net, done, lot, wish):
    """A goal, a moment and a node whose packet breaks the wish, None if the round keeps it."""
    for changed in parts_of(lot):
        found = fault_at(net, joined(done, changed), wish)
        if found is not None:
            goal, node = found
            return (goal, changed, node)
    return None


def is_fault(net, done, lot, wish, value):
    """Whether any value is a goal, a moment and a node whose packet breaks the wish."""
    if not isinstance(value, tuple) or len(value) != 3:
        return False
    goal, changed, node = value
    if goal not in net.goals or not is_lot_of(changed, lot) or node not in starts(net, wish):
        return False
    return breaks(net, wish, goal, followed(ways_at(net, done, changed, goal), node))


def fault_at(net, changed, wish):
    """A goal and a node whose packet breaks the wish while just these nodes have their new ways, or None."""
    for goal in net.goals:
        table = ways_at(net, (), changed, goal)
        for node in starts(net, wish):
            if breaks(net, wish, goal, followed(table, node)):
                return (goal, node)
    return None


def broken_moments(net, wish):
    """The list of the lots that break the wish while just their nodes have their new ways, by length."""
    return [changed for changed in parts_of(net.changing) if fault_at(net, changed, wish) is not None]


def starts(net, wish):
    """The nodes at which packets that break the wish begin."""
    return net.nodes if wish == "rings" else net.sources


def breaks(net, wish, goal, places):
    """Whether a packet that is led to these places, and nowhere else, breaks the wish."""
    if wish == "lost":
        return places[-1] is None
    if wish == "posts":
        return places[-1] == goal and posts_passed(net.posts, places) < len(net.posts)
    return places[-1] in places[:-1]


def posts_passed(posts, places):
    """How many posts, from the first one on, are passed in their order on the way along these places."""
    passed = 0
    for place in places:
        passed = passed_with(posts, passed, place)
    return passed


def passed_with(posts, passed, place):
    """How many posts are passed at a place, if so many were passed ahead of it."""
    return passed + 1 if passed < len(posts) and posts[passed] == place else passed


def kept_paper(net, done, lot, wish, goal):
    """The paper for a goal and a wish that the round keeps."""
    mixture = ways(net, done, lot, goal)
    found = {node: mixture[node] for node in nodes_reached(mixture, starts(net, wish))}
    if wish == "lost":
        return {node: 0 for node in found}
    if wish == "posts":
        return least_passed(found, net.sources, net.posts)
    return least_ranks(found)


def least_passed(mixture, sources, posts):
    """The dict from the nodes of a mixture to how many posts packets from the sources have passed there at least."""
    least = {}
    newest = [(node, passed_with(posts, 0, node)) for node in sources]
    while newest:
        later = []
        for node, passed in newest:
            # Who has passed more posts ahead of a node has passed no fewer behind it: only the least number counts.
            if node not in least or passed < least[node]:
                least[node] = passed
                later.extend([(place, passed_with(posts, passed, place)) for place in nodes_behind(mixture, node)])
        newest = later
    return {node: least[node] for node in mixture}


def are_papers(net, done, lot, wish, value):
    """Whether any value is a dict from all goals to papers for the wish."""
    if not isinstance(value, dict) or len(value) != len(net.goals):
        return False
    return all([goal in value and is_paper(net, done, lot, wish, goal, value[goal]) for goal in net.goals])


def is_paper(net, done, lot, wish, goal, value):
    """Whether any value is a paper for the wish and the goal."""
    if not isinstance(value, dict):
        return False
    if not all([node in net.nodes and is_count(number) for node, number in value.items()]):
        return False
    if not all([node in value for node in starts(net, wish)]):
        return False
    if wish == "posts" and not all([value[node] <= passed_with(net.posts, 0, node) for node in net.sources]):
        return False
    mixture = ways(net, done, lot, goal)
    return all([fits(net, mixture, wish, goal, value, node) for node in value])


def fits(net, mixture, wish, goal, paper, node):
    """Whether a paper for the wish and the goal has what it must have with one of its nodes."""
    behind = nodes_behind(mixture, node)
    if not all([place in paper for place in behind]):
        return False
    if wish == "lost":
        return None not in mixture[node]
    if wish == "posts":
        if goal in mixture[node] and paper[node] < len(net.posts):
            return False
        return all([paper[place] <= passed_with(net.posts, paper[node], place) for place in behind])
    return all([paper[place] < paper[node] for place in behind])


def check_wish(wish):
    """Raise BadWish unless the value is a wish."""
    if wish not in WISHES:
        raise BadWish("no wish")


def check_wishes(wishes):
    """Raise BadWishes unless the value is a list of different wishes."""
    if not are_different(wishes, WISHES):
        raise BadWishes("no list of different wishes")
