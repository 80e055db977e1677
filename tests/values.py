"""Values that several tests use."""

from roundways.desk import Desk
from roundways.errors import BadPlace, NoNode
from roundways.live import Live
from roundways.nets import Net

SMALL_TEXT = "goal z\nway y z -\nsources -\nposts -\n"


ATTRIBUTES = {
    "BadNet": "part", "NoGoal": "goal", "NoNode": "node", "BadLot": "part", "BadPlan": "at", "BadNumber": "number",
    "BadSights": "at", "Unsafe": "wish", "NotSo": "node", "NoPacket": "packet", "BadJournal": "at", "BadText": "line",
}


def told_by(error):
    """The class of an error and its attribute, None if it has none."""
    name = ATTRIBUTES.get(type(error).__name__)
    return (type(error), picture(getattr(error, name)) if name else None)


def refusal(test, error, told, function, *given, **named):
    """Hold a call to an error and its attribute (... if it has none), and to changing nothing."""
    before = picture((given, named))
    with test.assertRaises(error) as caught:
        function(*given, **named)
    test.assertEqual(told_by(caught.exception), (error, None if told is ... else picture(told)))
    test.assertEqual(picture((given, named)), before)


def nested(value, deep):
    for _ in range(deep):
        value = [value]
    return value


def nested_tuple(value, deep):
    for _ in range(deep):
        value = (value,)
    return value


def nested_dict(value, deep):
    for _ in range(deep):
        value = {"a": value}
    return value


def picture(value):
    """A text that differs for values that differ, also in kinds or in the order of keys."""
    if isinstance(value, (list, tuple)):
        return f"{type(value).__name__}[{', '.join(picture(item) for item in value)}]"
    if isinstance(value, dict):
        return f"dict[{', '.join(f'{picture(key)}: {picture(item)}' for key, item in value.items())}]"
    if isinstance(value, Net):
        return f"Net[{value.tables!r}, {value.sources!r}, {value.posts!r}]"
    if isinstance(value, Live):
        return f"Live[{picture(all_of_live(value))}]"
    if isinstance(value, Desk):
        return f"Desk[{picture(all_of_desk(value))}]"
    return repr(value)


def all_of_live(live):
    """All that can be asked of a live net."""
    sends = [deed for deed in live.log if deed[0] == "send"]
    passed = [live.passed(packet) for packet in range(len(sends))]
    fates = [live.fates(packet) if places[-1] in live.net.nodes else None for packet, places in enumerate(passed)]
    return [live.net, live.wishes, live.done, live.round, live.changed, live.log, passed, fates, live.next_rounds()]


def all_of_desk(desk):
    """All that can be asked of a desk."""
    lines = ["done", "open", "next", "cost"]
    packets = 0
    while desk.reply(f"passed {packets}") != "error NoPacket":
        lines += [f"passed {packets}", f"fates {packets}"]
        packets += 1
    return [desk.reply(line) for line in lines]


def other_net():
    return Net({"z": ({"y": "z"}, {"y": None})})


def any_values():
    """New values of all kinds, none of which is a name of a node or a goal used in the tests."""
    return [
        None, True, False, 0, 1, -1, 2, 10 ** 999, -(10 ** 999), "", "-", "A", "a ", "ab", "abcdefg", "nowhere",
        [], (), {}, [None], (None,), ["a"], ("a", "a"), [["a"]], (("a",),), {"a": 1}, {1: "a"}, {None: None},
        {("a",): ["a"]}, nested("a", 20), nested_tuple("a", 20), nested_dict("a", 20), nested_tuple(1, 20),
        other_net(), [other_net()], (other_net(),), {"a": other_net()}, BadPlace("no place"), NoNode("a"),
        Live(other_net(), []), [Live(other_net(), ["home"])], Desk(SMALL_TEXT, []), (Desk(SMALL_TEXT, []), 0),
    ]


def triangle():
    """Each of the three nodes changes; a is a source, b a post."""
    old = {"a": "b", "b": "c", "c": "g"}
    new = {"a": "c", "b": "g", "c": "b"}
    return Net({"g": (old, new)}, ["a"], ["b"])


def pair():
    """Two nodes that lead to one another if b changes first."""
    return Net({"g": ({"a": "b", "b": "g"}, {"a": "g", "b": "a"})})


def double():
    """Two goals; a changes for g only, b for h only, c for both, d for none; d loses packets for h."""
    old_g = {"a": "b", "b": "c", "c": "g", "d": "a"}
    new_g = {"a": "c", "b": "c", "c": None, "d": "a"}
    old_h = {"a": "d", "b": "h", "c": "b", "d": None}
    new_h = {"a": "d", "b": "a", "c": "h", "d": None}
    return Net({"h": (old_h, new_h), "g": (old_g, new_g)}, ("d", "a"), ("c", "a"))


def chain():
    """Six nodes one behind the other; the new ways lead all the way back, but for the first node."""
    old = {"a": "b", "b": "c", "c": "d", "d": "e", "e": "f", "f": "goal"}
    new = {"a": "goal", "b": "a", "c": "a", "d": "a", "e": "a", "f": "a"}
    return Net({"goal": (old, new)}, ["f"])


def crossed():
    """For g the node a must change before b, for h b before a; all ways are sound."""
    tables = {
        "g": ({"a": "b", "b": "g"}, {"a": "g", "b": "a"}),
        "h": ({"a": "h", "b": "a"}, {"a": "b", "b": "h"}),
    }
    return Net(tables, ["a"])


def closing():
    """All three nodes lead to the goal, and around in a ring when the last of them has changed."""
    return Net({"g": ({"a": "g", "b": "g", "c": "g"}, {"a": "b", "b": "c", "c": "a"})}, ["b"])


def stuck():
    """For the post d the nodes must change in the order c, a, b; against rings in the order b, d, c."""
    old = {"a": "b", "b": "d", "c": "g", "d": "c"}
    new = {"a": "c", "b": "g", "c": "d", "d": "b"}
    return Net({"g": (old, new)}, ["a"], ["d"])


def still(posts=(), sources=("a",)):
    """Nothing changes; packets go from a by b and c to the goal."""
    table = {"a": "b", "b": "c", "c": "g"}
    return Net({"g": (table, table)}, sources, posts)


def losing():
    """The packets of a are lost while b has its new way, and c still its old one."""
    old = {"a": "b", "b": "g", "c": None}
    new = {"a": "b", "b": "c", "c": "g"}
    return Net({"g": (old, new)}, ["a"])


def fallback(many):
    """The packets of f are lost if f has its new way, and all of the other nodes, so many, still their old ones."""
    nodes = "abcde"[:many]
    old = dict(zip(nodes, [*nodes[1:], None]))
    return Net({"g": ({**old, "f": "g"}, {**{node: "g" for node in nodes}, "f": "a"})}, ["f"])


def costly():
    """Against "home" two rounds are enough, but three if a node may be late."""
    old = {"a": "d", "b": "g", "c": "a", "d": "b", "e": "a"}
    new = {"a": "b", "b": "c", "c": "g", "d": "e", "e": "g"}
    return Net({"g": (old, new)}, ["d", "e"])
