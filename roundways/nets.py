"""Nets: nodes that hand packets on to goals, by old ways and by new ones."""

from roundways.errors import BadNet, BadPlace, NoGoal, NoNode

MOST_GOALS = 2
MOST_NODES = 6
MOST_POSTS = 2
MOST_LETTERS = 6


class Net:
    """For each goal the old way and the new one of each node, with sources and posts."""

    def __init__(self, tables, sources=(), posts=()):
        if not are_tables(tables):
            raise BadNet("tables")
        first_old, _ = list(tables.values())[0]
        nodes = tuple(sorted(first_old))
        if not are_different(sources, nodes):
            raise BadNet("sources")
        if not are_different(posts, nodes) or len(posts) > MOST_POSTS:
            raise BadNet("posts")
        self._tables = {}
        for goal in sorted(tables):
            old, new = tables[goal]
            self._tables[goal] = ({node: old[node] for node in nodes}, {node: new[node] for node in nodes})
        self._nodes = nodes
        self._sources = tuple(sorted(sources))
        self._posts = tuple(posts)

    def __eq__(self, other):
        return (isinstance(other, Net) and self._tables == other._tables
                and self._sources == other._sources and self._posts == other._posts)

    @property
    def tables(self):
        """The dict from the goals to the pairs of their old ways and their new ones."""
        return {goal: (dict(old), dict(new)) for goal, (old, new) in self._tables.items()}

    @property
    def goals(self):
        """The ascending tuple of the goals."""
        return tuple(self._tables)

    @property
    def nodes(self):
        """The ascending tuple of the nodes."""
        return self._nodes

    @property
    def sources(self):
        """The ascending tuple of the sources."""
        return self._sources

    @property
    def posts(self):
        """The tuple of the posts, in their order."""
        return self._posts

    @property
    def changing(self):
        """The ascending tuple of the nodes with another new way for some goal."""
        pairs = list(self._tables.values())
        return tuple([node for node in self._nodes if any([old[node] != new[node] for old, new in pairs])])

    def way(self, goal, node, is_new):
        """The new way of a node for a goal, or the old one."""
        check_goal(self, goal)
        check_node(self, node)
        old, new = self._tables[goal]
        return new[node] if is_new else old[node]

    def turned(self):
        """The net in which old and new ways are exchanged."""
        tables = {goal: (new, old) for goal, (old, new) in self._tables.items()}
        return Net(tables, self._sources, self._posts)

    def with_way(self, goal, node, is_new, place):
        """The net in which one way is another."""
        check_goal(self, goal)
        check_node(self, node)
        if not is_place(place, node, self._nodes, goal):
            raise BadPlace("no place of this node for this goal")
        tables = self.tables
        old, new = tables[goal]
        if is_new:
            new[node] = place
        else:
            old[node] = place
        return Net(tables, self._sources, self._posts)


def depths(net, goal, is_new):
    """The dict from the nodes to their hops to the goal, None where the ways lead elsewhere."""
    check_net(net)
    check_goal(net, goal)
    old, new = net.tables[goal]
    found = {}
    for node in net.nodes:
        places = followed(new if is_new else old, node)
        found[node] = len(places) - 1 if places[-1] == goal else None
    return found


def is_sound(net):
    """Whether each node leads to each goal, by the old ways alone and by the new ones alone."""
    check_net(net)
    for goal in net.goals:
        for is_new in (False, True):
            if None in list(depths(net, goal, is_new).values()):
                return False
    return True


def followed(table, node):
    """The places from a node on, by the ways of a table, up to one that is no node or comes again."""
    places = [node]
    while places[-1] in table and places[-1] not in places[:-1]:
        places.append(table[places[-1]])
    return places


def check_net(net):
    """Raise BadNet unless the value is a net."""
    if not isinstance(net, Net):
        raise BadNet("net")


def check_goal(net, goal):
    """Raise NoGoal unless the value is a goal of the net."""
    if goal not in net.goals:
        raise NoGoal(goal)


def check_node(net, node):
    """Raise NoNode unless the value is a node of the net."""
    if node not in net.nodes:
        raise NoNode(node)


def is_list(value):
    """Whether any value can stand where a list is documented."""
    return isinstance(value, (list, tuple))


def is_number(value):
    """Whether any value is an int and no bool."""
    return isinstance(value, int) and not isinstance(value, bool)


def is_name(value):
    """Whether any value is a text of few letters a to z."""
    if not isinstance(value, str) or not 1 <= len(value) <= MOST_LETTERS:
        return False
    return all(["a" <= sign <= "z" for sign in value])


def is_place(value, node, nodes, goal):
    """Whether any value is a place to which a node can hand packets for a goal."""
    return value is None or value == goal or (value in nodes and value != node)


def are_different(value, nodes):
    """Whether any value is a list of different ones of the nodes."""
    return is_list(value) and all([item in nodes for item in value]) and len(set(value)) == len(value)


def are_nodes(names, goals):
    """Whether keys are the nodes of a net with these goals."""
    return 1 <= len(names) <= MOST_NODES and all([is_name(name) and name not in goals for name in names])


def are_tables(value):
    """Whether any value is a dict from goals to pairs of old and new ways."""
    if not isinstance(value, dict) or not 1 <= len(value) <= MOST_GOALS:
        return False
    if not all([is_name(goal) and is_pair_of_dicts(value[goal]) for goal in value]):
        return False
    goals = list(value)
    nodes = list(value[goals[0]][0])
    if not are_nodes(nodes, goals):
        return False
    return all([is_table(table, nodes, goal) for goal in goals for table in value[goal]])


def is_pair_of_dicts(value):
    """Whether any value is a tuple of two dicts."""
    return isinstance(value, tuple) and len(value) == 2 and all([isinstance(part, dict) for part in value])


def is_table(table, nodes, goal):
    """Whether a dict has a way of each node for the goal, and nothing else."""
    if len(table) != len(nodes):
        return False
    return all([node in table and is_place(table[node], node, nodes, goal) for node in nodes])
