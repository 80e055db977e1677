"""Costs: how many rounds each lot of wishes needs, and which wishes quarrel."""

from roundways.mixtures import parts_of
from roundways.nets import check_net
from roundways.plans import check_many, moments_to_avoid, rounds_needed, safe_rounds
from roundways.wishes import WISHES, broken_moments, check_wishes


def cost(net, wishes):
    """How few rounds plans for the wishes have, None if there is no plan."""
    check_net(net)
    check_wishes(wishes)
    return needed(net, moments_to_avoid(net, wishes))


def costs(net):
    """The dict from all ascending tuples of wishes to their costs."""
    check_net(net)
    broken = {wish: broken_moments(net, wish) for wish in WISHES}
    found = {}
    for wishes in sorted(parts_of(WISHES)):
        found[wishes] = needed(net, [changed for wish in wishes for changed in broken[wish]])
    return found


def quarrels(net, many):
    """The list of the least tuples of wishes without a plan of at most so many rounds, by length."""
    check_net(net)
    if many is not None:
        check_many(many)
    found = costs(net)
    least = []
    for wishes in parts_of(WISHES):
        # More wishes cost no less: each part of them has a plan if none of those found so far is one.
        if is_too_much(found[wishes], many) and not any([part in least for part in parts_of(wishes)]):
            least.append(wishes)
    return least


def saved(net, wishes, other):
    """How many rounds the wishes cost more than other ones, None if one of both has no plan."""
    first, second = cost(net, wishes), cost(net, other)
    if first is None or second is None:
        return None
    return first - second


def needed(net, broken):
    """How few rounds lead to all nodes without one of these moments, None if none do."""
    return rounds_needed(net.changing, safe_rounds(net.changing, broken))


def is_too_much(rounds, many):
    """Whether so many rounds, None for no plan, are more than there may be, None for any number."""
    return rounds is None or (many is not None and rounds > many)
