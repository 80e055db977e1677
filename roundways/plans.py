"""Plans: rounds one behind the other, each of them safe, until all nodes have changed."""

from roundways.errors import BadNumber
from roundways.mixtures import is_count, is_lot_of, joined, parts_of
from roundways.nets import check_net, depths, is_list, is_number, is_sound
from roundways.wishes import broken_moments, check_wishes, is_safe

MOST_ROUNDS = 6


def is_plan(net, wishes, thing):
    """Whether any value is a plan for the wishes."""
    check_net(net)
    check_wishes(wishes)
    if not is_list(thing) or not all([is_lot_of(lot, net.changing) and len(lot) > 0 for lot in thing]):
        return False
    if tuple(sorted([node for lot in thing for node in lot])) != net.changing:
        return False
    done = ()
    for lot in [*thing, ()]:
        if not is_safe(net, done, lot, wishes):
            return False
        done = joined(done, lot)
    return True


def by_depth(net):
    """The rounds of the changing nodes of one depth by the new ways each, None unless net is sound with one goal."""
    check_net(net)
    if not is_sound(net) or len(net.goals) != 1:
        return None
    hops = depths(net, net.goals[0], True)
    found = sorted(set([hops[node] for node in net.changing]))
    return [tuple([node for node in net.changing if hops[node] == depth]) for depth in found]


def fewest(net, wishes):
    """A plan with as few rounds as can be and numbers that show it, or lots that show that there is no plan."""
    check_net(net)
    check_wishes(wishes)
    safe = safe_rounds(net.changing, moments_to_avoid(net, wishes))
    numbers = round_numbers(safe)
    many = rounds_needed(net.changing, safe)
    if many is None:
        return ("never", sorted(numbers))
    plan = plan_with_place(plan_counts(net.changing, safe, many), safe, 0)
    return ("plan", plan, {lot: numbers[lot] for lot in sorted(numbers)})


def is_fewest(net, wishes, thing):
    """Whether any value is a paper for the fewest rounds."""
    check_net(net)
    check_wishes(wishes)
    if not isinstance(thing, tuple) or len(thing) not in (2, 3):
        return False
    safe = safe_rounds(net.changing, moments_to_avoid(net, wishes))
    if len(thing) == 2:
        return thing[0] == "never" and are_closed(net.changing, safe, thing[1])
    word, plan, numbers = thing
    if word != "plan" or not is_plan(net, wishes, plan) or not are_round_numbers(net.changing, safe, numbers):
        return False
    return numbers[net.changing] == len(plan)


def how_many(net, wishes, many):
    """How many plans for the wishes have just so many rounds."""
    check_net(net)
    check_wishes(wishes)
    check_many(many)
    safe = safe_rounds(net.changing, moments_to_avoid(net, wishes))
    return plan_counts(net.changing, safe, many)[many][()]


def plan_at(net, wishes, many, place):
    """The plan with this place among those with so many rounds, ascending as tuples of rounds."""
    check_net(net)
    check_wishes(wishes)
    check_many(many)
    safe = safe_rounds(net.changing, moments_to_avoid(net, wishes))
    counts = plan_counts(net.changing, safe, many)
    if not is_count(place) or place >= counts[many][()]:
        raise BadNumber(place)
    return plan_with_place(counts, safe, place)


def moments_to_avoid(net, wishes):
    """The list of the lots that break one of the wishes while just their nodes have their new ways."""
    return [changed for wish in wishes for changed in broken_moments(net, wish)]


def safe_rounds(changing, broken):
    """The dict from all lots to the ascending lists of the rounds behind them without a broken moment."""
    barred = {changed: True for changed in broken}
    found = {}
    for done in reversed(parts_of(changing)):
        safe = {} if done in barred else {(): True}
        for node in [other for other in changing if other not in done]:
            # The moments of a round are those before this node changes and those behind it.
            behind = found[joined(done, (node,))]
            for lot in list(safe):
                if lot in behind:
                    longer = (*lot, node)
                    safe[longer] = True
        found[done] = safe
    return {done: sorted(found[done]) for done in found}


def round_numbers(safe):
    """The dict from the lots that safe rounds lead to, one behind the other, to the fewest such rounds."""
    found = {(): 0}
    newest = [()]
    while newest:
        later = []
        for done in newest:
            for behind in [joined(done, lot) for lot in safe[done]]:
                if behind not in found:
                    found[behind] = found[done] + 1
                    later.append(behind)
        newest = later
    return found


def rounds_needed(changing, safe):
    """How few rounds plans have, None if there is no plan."""
    # If no node changes, the ways as they are must keep the wishes: then () is a safe round.
    return round_numbers(safe).get(changing) if safe[changing] else None


def plan_counts(changing, safe, many):
    """For 0 rounds to so many the dict from all lots to how often just so many rounds make a plan of them."""
    counts = [{done: len(safe[done]) if done == changing else 0 for done in safe}]
    for at in range(many):
        fewer = counts[at]
        counts.append({done: sum([fewer[joined(done, lot)] for lot in safe[done] if lot]) for done in safe})
    return counts


def plan_with_place(counts, safe, place):
    """The plan with this place among those with as many rounds as the counts are for."""
    done = ()
    plan = []
    for fewer in reversed(counts[:-1]):
        # A plan whose round comes later in the order has all plans with this round ahead of it.
        for lot in [other for other in safe[done] if other]:
            many = fewer[joined(done, lot)]
            if place < many:
                break
            place -= many
        plan.append(lot)
        done = joined(done, lot)
    return plan


def are_round_numbers(changing, safe, value):
    """Whether any value is a dict from lots to numbers that rise by at most 1 with each safe round."""
    if not isinstance(value, dict):
        return False
    if not all([is_lot_of(lot, changing) and is_count(number) for lot, number in value.items()]):
        return False
    if () not in value or value[()] != 0 or not leads_within(safe, value):
        return False
    steps = [(done, joined(done, lot)) for done in value for lot in safe[done]]
    return changing in value and all([value[behind] <= value[done] + 1 for done, behind in steps])


def are_closed(changing, safe, value):
    """Whether any value is a list of different lots that safe rounds do not leave, nor make a plan within."""
    if not is_list(value) or not all([is_lot_of(lot, changing) for lot in value]):
        return False
    lots = {lot: True for lot in value}
    if len(lots) != len(value) or () not in lots or not leads_within(safe, lots):
        return False
    return changing not in lots or not safe[changing]


def leads_within(safe, lots):
    """Whether each safe round behind one of these lots leads to one of them."""
    return all([joined(done, lot) in lots for done in lots for lot in safe[done]])


def check_many(many):
    """Raise BadNumber unless the value is a number of rounds that a plan can have."""
    if not is_number(many) or not 0 <= many <= MOST_ROUNDS:
        raise BadNumber(many)
