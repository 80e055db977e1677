"""Late nodes: rounds that begin though nodes of earlier rounds have not changed yet."""

from roundways.errors import BadPlan
from roundways.mixtures import is_count, is_lot_of, joined, parts_of
from roundways.nets import MOST_NODES, check_net, is_list
from roundways.plans import check_many, moments_to_avoid, plan_counts, plan_with_place, rounds_needed, safe_rounds
from roundways.wishes import check_wish, check_wishes, fault_at, is_fault


def late_fault(net, wishes, plan):
    """A wish and a late fault for it with the least price, None if there is none for any of the wishes."""
    check_asked(net, wishes, plan)
    faults = faults_at_moments(net, wishes)
    found = priced_moments(plan, faults)
    if not found:
        return None
    _, stage, changed = min(found)
    wish, goal, node = faults[changed]
    return (wish, (stage, goal, changed, node))


def least_price(net, wishes, plan):
    """The least price of a late fault for one of the wishes, None if there is none."""
    check_asked(net, wishes, plan)
    return least_of(priced_moments(plan, faults_at_moments(net, wishes)))


def is_late_fault(net, wish, plan, thing):
    """Whether any value is a late fault for the wish."""
    check_net(net)
    check_wish(wish)
    check_plan(net, plan)
    if not isinstance(thing, tuple) or len(thing) != 4:
        return False
    stages = stages_of(plan)
    if not is_count(thing[0]) or thing[0] >= len(stages):
        return False
    done, lot = stages[thing[0]]
    return is_fault(net, (), joined(done, lot), wish, thing[1:])


def stands(net, wishes, plan, many):
    """Whether no late fault has a price of at most so many."""
    check_asked(net, wishes, plan)
    check_many(many)
    least = least_of(priced_moments(plan, faults_at_moments(net, wishes)))
    return least is None or least > many


def fewest_standing(net, wishes, many):
    """One of the plans with as few rounds as can be that stand so many late nodes, None if there is none."""
    check_net(net)
    check_wishes(wishes)
    check_many(many)
    safe = standing_rounds(safe_rounds(net.changing, moments_to_avoid(net, wishes)), many)
    needed = rounds_needed(net.changing, safe)
    if needed is None:
        return None
    return plan_with_place(plan_counts(net.changing, safe, needed), safe, 0)


def most_standing(net, wishes):
    """The greatest number of late nodes that some plan stands, -1 if there is no plan."""
    check_net(net)
    check_wishes(wishes)
    safe = safe_rounds(net.changing, moments_to_avoid(net, wishes))
    # No more nodes can be late than a net can have: a plan that stands so many has no late fault at all.
    for many in reversed(range(MOST_NODES + 1)):
        if rounds_needed(net.changing, standing_rounds(safe, many)) is not None:
            return many
    return -1


def stages_of(plan):
    """The list of the pairs of the nodes that are done and those that change, for each stage."""
    done = ()
    found = []
    for lot in [*plan, ()]:
        found.append((done, lot))
        done = joined(done, lot)
    return found


def faults_at_moments(net, wishes):
    """The dict from the lots that break a wish while just they have their new ways to a wish, a goal and a node."""
    found = {}
    for wish in sorted(wishes):
        for changed in [lot for lot in parts_of(net.changing) if lot not in found]:
            fault = fault_at(net, changed, wish)
            if fault is not None:
                found[changed] = (wish, *fault)
    return found


def priced_moments(plan, faults):
    """The list of the triples of a price, a stage and the changed nodes of the late faults of a plan."""
    return [(len([node for node in done if node not in changed]), stage, changed)
            for stage, (done, lot) in enumerate(stages_of(plan))
            for changed in parts_of(joined(done, lot)) if changed in faults]


def least_of(priced):
    """The least price of triples of a price, a stage and changed nodes, None if there are none."""
    return min(priced)[0] if priced else None


def standing_rounds(safe, many):
    """The rounds, told as safe ones are, that are safe as well while so many of the nodes that are done are late."""
    found = {}
    for done in safe:
        fewer = [tuple([node for node in done if node not in late]) for late in parts_of(done) if len(late) <= many]
        # A round is safe with some late nodes if it is safe as a round behind the others.
        found[done] = [lot for lot in safe[done] if all([lot in safe[other] for other in fewer])]
    return found


def first_wrong_round(net, rounds):
    """The index of the first item that is no lot, not empty, of nodes of no round ahead of it, None if none is."""
    left = net.changing
    for at, lot in enumerate(rounds):
        if not is_lot_of(lot, left) or len(lot) == 0:
            return at
        left = tuple([node for node in left if node not in lot])
    return None


def check_plan(net, plan):
    """Raise BadPlan unless the value is a list of lots, none empty, without a node in two of them."""
    if not is_list(plan):
        raise BadPlan(None)
    wrong = first_wrong_round(net, plan)
    if wrong is not None:
        raise BadPlan(wrong)


def check_asked(net, wishes, plan):
    """Raise the errors of a net, of wishes and of a plan."""
    check_net(net)
    check_wishes(wishes)
    check_plan(net, plan)
