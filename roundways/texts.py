"""Texts: nets and plans, written line by line and read back."""

from roundways.errors import BadNet, BadText
from roundways.late import check_plan, first_wrong_round
from roundways.nets import MOST_GOALS, MOST_NODES, MOST_POSTS, Net, are_different, check_net, is_name

NOTHING = "-"


def net_text(net):
    """The text of a net."""
    check_net(net)
    lines = []
    for goal in net.goals:
        lines.append(f"goal {goal}")
        for node in net.nodes:
            lines.append(f"way {node} {place_word(net.way(goal, node, False))} {place_word(net.way(goal, node, True))}")
    lines.append(f"sources {node_words(net.sources)}")
    lines.append(f"posts {node_words(net.posts)}")
    return joined_lines(lines)


def read_net(text):
    """The net with exactly this text."""
    lines, is_whole = split_lines(text)
    told = ToldNet()
    for at, line in enumerate(lines):
        if not told.takes(line.split(" ")):
            raise BadText(at)
    if not is_whole or not told.is_complete():
        raise BadText(len(lines))
    try:
        return told.made()
    except BadNet:
        raise BadText(len(lines)) from None


def plan_text(net, plan):
    """The text of a plan."""
    check_net(net)
    check_plan(net, plan)
    return joined_lines([f"round {node_words(lot)}" for lot in plan])


def read_plan(net, text):
    """The plan with exactly this text."""
    check_net(net)
    lines, is_whole = split_lines(text)
    rounds = [round_of(line.split(" ")) for line in lines]
    wrong = first_wrong_round(net, rounds)
    if wrong is not None:
        raise BadText(wrong)
    if not is_whole:
        raise BadText(len(lines))
    return rounds


class ToldNet:
    """What the lines of a text, up to some line, tell of a net."""

    def __init__(self):
        self._told = {}
        self._names = []
        self._origins = None
        self._checks = None

    def takes(self, words):
        """Whether a line of these words can stand next; if so, it is told from now on."""
        word, *rest = words
        if self._checks is not None:
            return False
        if self._origins is not None:
            return word == "posts" and self._takes_posts(rest)
        if word == "goal":
            return self._takes_goal(rest)
        if word == "way":
            return self._takes_way(rest)
        return word == "sources" and self._takes_sources(rest)

    def is_complete(self):
        """Whether the last line of a net is told."""
        return self._checks is not None

    def made(self):
        """The net that is told, if it is one."""
        return Net(self._told, self._origins, self._checks)

    def _takes_goal(self, words):
        """Take the line of a goal, if it can stand next."""
        if len(words) != 1 or not is_name(words[0]) or len(self._told) == MOST_GOALS:
            return False
        if self._told and (not self._has_all_ways() or words[0] <= list(self._told)[-1] or words[0] in self._names):
            return False
        self._told[words[0]] = ({}, {})
        return True

    def _takes_way(self, words):
        """Take the line of a node, if it can stand next."""
        if len(words) != 3 or not is_name(words[0]) or not self._told:
            return False
        if not all([word == NOTHING or is_name(word) for word in words[1:]]):
            return False
        node, old_place, new_place = words
        old, new = list(self._told.values())[-1]
        if not self._is_next_node(node, len(old)):
            return False
        if len(self._told) == 1:
            self._names.append(node)
        old[node] = place_of(old_place)
        new[node] = place_of(new_place)
        return True

    def _is_next_node(self, node, many):
        """Whether a node can be told for the last goal, so many being told for it."""
        if len(self._told) > 1:
            return many < len(self._names) and node == self._names[many]
        return many < MOST_NODES and node not in self._told and (many == 0 or node > self._names[-1])

    def _takes_sources(self, words):
        """Take the line of the sources, if it can stand next."""
        found = nodes_of(words)
        if not self._has_all_ways() or not are_different(found, self._names) or found != sorted(found):
            return False
        self._origins = found
        return True

    def _takes_posts(self, words):
        """Take the line of the posts, if it can stand next."""
        found = nodes_of(words)
        if not are_different(found, self._names) or len(found) > MOST_POSTS:
            return False
        self._checks = found
        return True

    def _has_all_ways(self):
        """Whether a goal is told, and each node for the last one."""
        if not self._names:
            return False
        old, _ = list(self._told.values())[-1]
        return len(old) == len(self._names)


def place_word(place):
    """The word for a place."""
    return NOTHING if place is None else place


def place_of(word):
    """The place with this word."""
    return None if word == NOTHING else word


def node_words(nodes):
    """The words for nodes, of which there may be none."""
    return " ".join(nodes) if nodes else NOTHING


def nodes_of(words):
    """The list of the nodes with these words, None if they are none."""
    if words == [NOTHING]:
        return []
    return words if words else None


def round_of(words):
    """The round that the words of a line tell, () if it is no line of a round."""
    return tuple(words[1:]) if words[0] == "round" else ()


def split_lines(text):
    """The list of the lines of a text, and whether the last one has its line feed."""
    if not isinstance(text, str):
        raise BadText(0)
    parts = text.split("\n")
    if parts[-1] == "":
        return (parts[:-1], True)
    return (parts, False)


def joined_lines(lines):
    """The text of these lines."""
    return "".join([line + "\n" for line in lines])
