"""Blockers: the least lots of nodes that must not change in one round, and the greatest rounds without them."""

from roundways.mixtures import check_lot, check_round, joined, parts_of
from roundways.nets import check_net
from roundways.wishes import check_wishes, fault_at


def blockers(net, done, wishes):
    """The list of the least lots that are not safe as a round behind done, by length."""
    check_behind(net, done, wishes)
    return least_unsafe(net, done, nodes_left(net, done), wishes)


def greatest_rounds(net, done, wishes):
    """The list of the safe rounds behind done to which no further node can be put, by length."""
    check_behind(net, done, wishes)
    left = nodes_left(net, done)
    least = least_unsafe(net, done, left, wishes)
    safe = {lot: True for lot in parts_of(left) if not any([is_part(part, lot) for part in least])}
    return [lot for lot in safe if not any([joined(lot, (node,)) in safe for node in left if node not in lot])]


def why_not(net, done, lot, wishes):
    """The least blocker within the round, None if the round is safe."""
    check_round(net, done, lot, "lot")
    check_wishes(wishes)
    least = least_unsafe(net, done, lot, wishes)
    return least[0] if least else None


def least_unsafe(net, done, nodes, wishes):
    """The list of the least lots of these nodes that are not safe behind done, by length."""
    found = []
    for lot in parts_of(nodes):
        # If no lesser lot breaks a wish, all moments of this one but the last keep them.
        if not any([is_part(part, lot) for part in found]) and is_broken_at(net, joined(done, lot), wishes):
            found.append(lot)
    return found


def is_broken_at(net, changed, wishes):
    """Whether one of the wishes is broken while just these nodes have their new ways."""
    return any([fault_at(net, changed, wish) is not None for wish in wishes])


def nodes_left(net, done):
    """The lot of the nodes that are not done."""
    return tuple([node for node in net.changing if node not in done])


def is_part(part, lot):
    """Whether a lot has all nodes of another one."""
    return all([node in lot for node in part])


def check_behind(net, done, wishes):
    """Raise the errors of a net, of a lot done and of wishes."""
    check_net(net)
    check_lot(net, done, "done")
    check_wishes(wishes)
