"""What DOC.md says of texts, word by word: which line can stand behind which, judged anew for each line.

Nothing of the package is used here but nets.
"""

import re

from roundways.nets import Net

NAME = "[a-z]{1,6}"
FORMS = {
    "goal": f"goal {NAME}",
    "way": f"way {NAME} ({NAME}|-) ({NAME}|-)",
    "sources": f"sources (-|{NAME}( {NAME})*)",
    "posts": f"posts (-|{NAME}( {NAME})*)",
}


def written(net):
    """The text of a net."""
    text = ""
    for goal, (old, new) in sorted(net.tables.items()):
        text += "goal " + goal + "\n"
        for node in sorted(old):
            text += " ".join(["way", node, old[node] or "-", new[node] or "-"]) + "\n"
    text += " ".join(["sources", *(sorted(net.sources) or ["-"])]) + "\n"
    return text + " ".join(["posts", *(net.posts or ["-"])]) + "\n"


def groups(lines):
    """The pairs of a goal and the nodes told for it, of lines that can stand."""
    found = []
    for line in lines:
        word, name = line.split(" ")[:2]
        if word == "goal":
            found.append((name, []))
        elif word == "way":
            found[-1][1].append(name)
    return found


def can_stand(ahead, line):
    """Whether a line can stand behind lines that can."""
    word, *rest = line.split(" ")
    if word not in FORMS or not re.fullmatch(FORMS[word], line):
        return False
    told, last = groups(ahead), ahead[-1].split(" ")[0] if ahead else None
    nodes = told[0][1] if told else []
    is_whole = bool(told) and told[-1][1] == nodes and nodes != []
    if word == "goal":
        if not ahead:
            return True
        return last == "way" and is_whole and len(told) == 1 and rest[0] > told[0][0] and rest[0] not in nodes
    if word == "way":
        if last not in ("goal", "way"):
            return False
        if len(told) == 2:
            return len(told[1][1]) < len(nodes) and rest[0] == nodes[len(told[1][1])]
        return len(nodes) < 6 and rest[0] != told[0][0] and all(rest[0] > node for node in nodes)
    names = [] if rest == ["-"] else rest
    if any(name not in nodes for name in names) or len(set(names)) < len(names):
        return False
    if word == "sources":
        return last == "way" and is_whole and names == sorted(names)
    return last == "sources" and len(names) <= 2


def made(lines):
    """The net that the lines tell, None if they tell none."""
    tables, nodes = {}, groups(lines)[0][1]
    for line in lines:
        word, *rest = line.split(" ")
        if word == "goal":
            goal = rest[0]
            tables[goal] = ({}, {})
        elif word == "way":
            for table, place in zip(tables[goal], rest[1:]):
                if place not in ["-", goal, *[node for node in nodes if node != rest[0]]]:
                    return None
                table[rest[0]] = None if place == "-" else place
    names = [[] if line.split(" ")[1:] == ["-"] else line.split(" ")[1:] for line in lines[-2:]]
    return Net(tables, *names)


def read(text):
    """The net with this text, or the number of the line that BadText tells."""
    if type(text) is not str or text == "":
        return 0
    lines = text.split("\n")
    ends = lines[-1] == ""
    if ends:
        lines.pop()
    for at, line in enumerate(lines):
        if not can_stand(lines[:at], line):
            return at
    if not ends or not lines[-1].startswith("posts "):
        return len(lines)
    net = made(lines)
    return len(lines) if net is None else net


def read_plan(net, text):
    """The plan with this text, or the number of the line that BadText tells."""
    if type(text) is not str:
        return 0
    changing = [node for node in net.nodes if any(old[node] != new[node] for old, new in net.tables.values())]
    rounds, lines = [], text.split("\n")
    ends = lines[-1] == ""
    for at, line in enumerate(lines[:-1] if ends else lines):
        nodes = line.split(" ")[1:]
        if not re.fullmatch(f"round {NAME}( {NAME})*", line) or any(node not in changing for node in nodes):
            return at
        if nodes != sorted(set(nodes)) or any(node in lot for node in nodes for lot in rounds):
            return at
        rounds.append(tuple(nodes))
    return rounds if ends else len(lines)
