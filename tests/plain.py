"""What DOC.md says of wishes, blockers and plans, word by word, by plain enumeration of all moments.

Nothing of the package is used here but nets.
"""

import itertools

from roundways.nets import Net

WISHES = ("home", "lost", "posts", "rings")


def random_table(chance, nodes, goal, sound):
    """Ways of all nodes; sound ones lead from each node to the goal, most of them along one path."""
    order = chance.sample(nodes, len(nodes))
    table = {}
    for at, node in enumerate(order):
        places = [goal, *order[:at]]
        if sound:
            places = chance.choice((places[-1:], places[-1:], places))
        elif chance.random() < 0.5:
            places = chance.choice(([None], [goal, *[other for other in nodes if other != node]]))
        table[node] = chance.choice(places)
    return {node: table[node] for node in nodes}


def random_net(chance, most=6):
    nodes = "abcdef"[:chance.randint(1, most)]
    sound = chance.random() < 0.7
    tables = {}
    for goal in chance.choice((["g"], ["h", "g"])):
        old, new = random_table(chance, nodes, goal, sound), random_table(chance, nodes, goal, sound)
        tables[goal] = (old, {node: old[node] if chance.random() < 0.2 else new[node] for node in nodes})
    sources = [node for node in nodes if chance.random() < 0.4]
    return Net(tables, sources, chance.sample(nodes, min(len(nodes), chance.choice((0, 0, 1, 1, 2)))))


def random_round(chance, net):
    parts = {node: chance.randint(0, 2) for node in net.changing}
    return tuple([tuple(node for node in net.changing if parts[node] == part) for part in (1, 2)])


def all_parts(items):
    return [part for many in range(len(items) + 1) for part in itertools.combinations(items, many)]


def by_length(lots):
    return sorted(lots, key=lambda lot: (len(lot), lot))


def led_to(net, goal, now_new, node):
    """The places that a packet comes to while just the nodes in now_new have their new ways."""
    places = [node]
    while places[-1] in net.nodes and places[-1] not in places[:-1]:
        old, new = net.tables[goal]
        places.append(new[places[-1]] if places[-1] in now_new else old[places[-1]])
    return places


def are_in_order(posts, places):
    """Whether the posts are, in this order, among the places."""
    return any(row == tuple(posts) for row in itertools.combinations(places, len(posts)))


def is_bad(net, wish, goal, now_new, node):
    """Whether the packet breaks the wish while just the nodes in now_new have their new ways."""
    if wish != "rings" and node not in net.sources:
        return False
    places = led_to(net, goal, now_new, node)
    if wish == "lost":
        return None in places
    if wish == "posts":
        return goal in places and not are_in_order(net.posts, places)
    return len(set(places)) < len(places)


class Plain:
    """The enumeration for one net; what was found for a moment is kept."""

    def __init__(self, net):
        self.net = net
        self.changing = tuple(node for node in net.nodes
                              if any(old[node] != new[node] for old, new in net.tables.values()))
        self.bad = {}

    def is_bad_at(self, now_new, wish):
        key = (frozenset(now_new), wish)
        if key not in self.bad:
            self.bad[key] = any(is_bad(self.net, wish, goal, now_new, node)
                                for goal in self.net.tables for node in self.net.nodes)
        return self.bad[key]

    def is_safe(self, done, lot, wishes):
        return not any(self.is_bad_at(done + part, wish) for wish in wishes for part in all_parts(lot))

    def left(self, done):
        return tuple(node for node in self.changing if node not in done)

    def blockers(self, done, wishes):
        unsafe = [lot for lot in all_parts(self.left(done)) if not self.is_safe(done, lot, wishes)]
        return by_length(lot for lot in unsafe if not any(set(part) < set(lot) for part in unsafe))

    def greatest(self, done, wishes):
        safe = [lot for lot in all_parts(self.left(done)) if self.is_safe(done, lot, wishes)]
        return by_length(lot for lot in safe if not any(set(lot) < set(more) for more in safe))

    def plans(self, wishes, done=()):
        """All plans from here on, as tuples of rounds."""
        rest = self.left(done)
        if not rest:
            return [()] if self.is_safe(self.changing, (), wishes) else []
        found = []
        for lot in all_parts(rest)[1:]:
            if self.is_safe(done, lot, wishes):
                behind = tuple(sorted(done + lot))
                found.extend([(lot, *plan) for plan in self.plans(wishes, behind)])
        return found

    def steps(self, wishes):
        """All pairs of a lot and of the nodes of it and of a round, not empty, that is safe behind it."""
        return [(done, tuple(sorted(done + lot))) for done in all_parts(self.changing)
                for lot in all_parts(self.left(done))[1:] if self.is_safe(done, lot, wishes)]

    def lots(self):
        return all_parts(self.changing)

    def ways(self, done, lot, goal):
        old, new = self.net.tables[goal]
        return {node: [new[node]] if node in done else [old[node], new[node]] if node in lot else [old[node]]
                for node in self.net.nodes}


def is_count(value):
    return type(value) is int and value >= 0


def is_paper(net, done, lot, wish, goal, paper):
    """Whether a value is a paper for a wish and a goal."""
    ways = Plain(net).ways(done, lot, goal)
    if type(paper) is not dict or any(node not in list(ways) or not is_count(paper[node]) for node in paper):
        return False
    needed = net.nodes if wish == "rings" else net.sources
    if any(node not in paper for node in needed):
        return False

    def later(number, node):
        return number + 1 if number < len(net.posts) and net.posts[number] == node else number

    if wish == "posts" and any(paper[node] > later(0, node) for node in needed):
        return False
    for node in paper:
        for place in ways[node]:
            if place is None:
                if wish == "lost":
                    return False
            elif place == goal:
                if wish == "posts" and paper[node] < len(net.posts):
                    return False
            elif place not in paper:
                return False
            elif wish in ("rings", "home") and paper[place] >= paper[node]:
                return False
            elif wish == "posts" and paper[place] > later(paper[node], place):
                return False
    return True


def is_shown(net, done, lot, wish, thing):
    """Whether a value shows that a wish is kept or broken."""
    if type(thing) is not tuple or len(thing) != 2:
        return False
    if thing[0] == "kept":
        return (type(thing[1]) is dict and sorted(map(str, thing[1])) == sorted(net.goals)
                and all(is_paper(net, done, lot, wish, goal, thing[1][goal]) for goal in net.goals))
    if thing[0] != "broken" or type(thing[1]) is not tuple or len(thing[1]) != 3:
        return False
    goal, changed, node = thing[1]
    return (goal in list(net.goals) and changed in all_parts(lot) and node in list(net.nodes)
            and is_bad(net, wish, goal, done + changed, node))


def is_plan(plain, wishes, thing):
    return type(thing) in (list, tuple) and tuple(thing) in plain.plans(wishes)


def is_fewest(plain, wishes, thing):
    """Whether a value is a paper for the fewest rounds."""
    if type(thing) is not tuple or thing[:1] not in (("plan",), ("never",)):
        return False
    if thing[0] == "never":
        if len(thing) != 2 or type(thing[1]) not in (list, tuple):
            return False
        lots = list(thing[1])
        return (all(lot in plain.lots() for lot in lots) and len(set(lots)) == len(lots) and () in lots
                and all(behind in lots for lot, behind in plain.steps(wishes) if lot in lots)
                and (plain.changing not in lots or not plain.is_safe(plain.changing, (), wishes)))
    if len(thing) != 3 or not is_plan(plain, wishes, thing[1]) or type(thing[2]) is not dict:
        return False
    numbers = thing[2]
    if any(lot not in plain.lots() or not is_count(number) for lot, number in numbers.items()):
        return False
    if numbers.get(()) != 0 or numbers.get(plain.changing) != len(thing[1]):
        return False
    return all(behind in numbers and numbers[behind] <= numbers[lot] + 1
               for lot, behind in plain.steps(wishes) if lot in numbers)
