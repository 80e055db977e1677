"""Packets that were seen: what sights tell of the nodes that have changed."""

from roundways.blockers import is_part
from roundways.errors import BadSights
from roundways.late import check_plan, stages_of
from roundways.mixtures import is_count, is_lot_of, joined, parts_of
from roundways.nets import check_net, is_list, is_place

MOST_SIGHTS = 12


def is_story(net, plan, sights, thing):
    """Whether any value is a story of the sights."""
    check_asked(net, plan, sights)
    if not is_list(thing) or len(thing) != len(sights):
        return False
    rounds = stages_of(plan)
    if not all([is_state(rounds, value) for value in thing]):
        return False
    if not all([is_seen_in(net, rounds, sight, state) for sight, state in zip(sights, thing)]):
        return False
    return all([can_follow(state, later) for state, later in zip(thing, thing[1:])])


def story(net, plan, sights):
    """A story of the sights, None if they do not fit."""
    check_asked(net, plan, sights)
    states = states_in_stories(states_seen(net, plan, sights))
    if not all(states):
        return None
    told = []
    for some in states:
        told.append([state for state in some if not told or can_follow(told[-1], state)][0])
    return told


def stages(net, plan, sights):
    """For each sight the ascending tuple of its stages in all stories, None if the sights do not fit."""
    check_asked(net, plan, sights)
    states = states_in_stories(states_seen(net, plan, sights))
    if not all(states):
        return None
    return [tuple(sorted(set([state[0] for state in some]))) for some in states]


def known(net, plan, sights):
    """The nodes with their new ways at the last sight in each story, and in some story, None without a story."""
    check_asked(net, plan, sights)
    rounds = stages_of(plan)
    last_done, _ = rounds[-1]
    if len(sights) == 0:
        return ((), last_done)
    states = states_in_stories(states_seen(net, plan, sights))
    if not all(states):
        return None
    lots = [now_new(rounds, state) for state in states[-1]]
    in_each = tuple([node for node in last_done if all([node in lot for lot in lots])])
    in_some = tuple([node for node in last_done if any([node in lot for lot in lots])])
    return (in_each, in_some)


def clash(net, plan, sights):
    """The least pair of indexes of sights that alone do not fit, None if the sights fit."""
    check_asked(net, plan, sights)
    seen = states_seen(net, plan, sights)
    for first in range(len(seen)):
        for second in range(first, len(seen)):
            pair = [seen[first]] if first == second else [seen[first], seen[second]]
            if not all(states_in_stories(pair)):
                return (first, second)
    return None


def states_seen(net, plan, sights):
    """For each sight the list of the pairs of a stage and its changed nodes at which it can be seen."""
    rounds = stages_of(plan)
    states = [(stage, changed) for stage in range(len(rounds)) for changed in parts_of(rounds[stage][1])]
    return [[state for state in states if is_seen_in(net, rounds, sight, state)] for sight in sights]


def states_in_stories(seen):
    """Those of the states of each sight that it has in some story of all sights; all are empty if there is none."""
    ahead = []
    for states in seen:
        reached = [state for state in states if not ahead or any([can_follow(other, state) for other in ahead[-1]])]
        ahead.append(reached)
    kept = []
    for states in reversed(ahead):
        left = [state for state in states if not kept or any([can_follow(state, other) for other in kept[-1]])]
        kept.append(left)
    return kept[::-1]


def is_state(rounds, value):
    """Whether any value is a pair of a stage and of changed nodes of its round."""
    if not isinstance(value, tuple) or len(value) != 2:
        return False
    stage, changed = value
    if not is_count(stage) or stage >= len(rounds):
        return False
    _, lot = rounds[stage]
    return is_lot_of(changed, lot)


def can_follow(state, later):
    """Whether a moment can come behind another one, or be the same."""
    stage, changed = state
    later_stage, later_changed = later
    return stage < later_stage or (stage == later_stage and is_part(changed, later_changed))


def now_new(rounds, state):
    """The lot of the nodes that are done or have changed."""
    stage, changed = state
    done, _ = rounds[stage]
    return joined(done, changed)


def is_seen_in(net, rounds, sight, state):
    """Whether the place of the sight is the way of its node at this moment."""
    goal, node, place = sight
    return place == net.way(goal, node, node in now_new(rounds, state))


def is_sight(net, value):
    """Whether any value is a triple of a goal, a node and a place of this node."""
    if not isinstance(value, tuple) or len(value) != 3:
        return False
    goal, node, place = value
    return goal in net.goals and node in net.nodes and is_place(place, node, net.nodes, goal)


def check_sights(net, sights):
    """Raise BadSights unless the value is a list of few sights."""
    if not is_list(sights) or len(sights) > MOST_SIGHTS:
        raise BadSights(None)
    for at, sight in enumerate(sights):
        if not is_sight(net, sight):
            raise BadSights(at)


def check_asked(net, plan, sights):
    """Raise the errors of a net, of a plan and of sights."""
    check_net(net)
    check_plan(net, plan)
    check_sights(net, sights)
