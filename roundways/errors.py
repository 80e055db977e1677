"""The errors of the package."""


def copied(value):
    """A value whose lists, tuples and dicts are new at every depth."""
    if isinstance(value, list):
        return [copied(item) for item in value]
    if isinstance(value, tuple):
        return tuple([copied(item) for item in value])
    if isinstance(value, dict):
        return {key: copied(value[key]) for key in value}
    return value


# The messages do not show the attributes: these may be any value, of any size.
# The attributes are copies: later changes of what was passed must not reach them.


class WayError(ValueError):
    """The base class of the errors of this package."""


class BadNet(WayError):
    """What was passed makes no net; part is the name of the parameter."""

    def __init__(self, part):
        super().__init__("no net, or no part of one")
        self.part = copied(part)


class NoGoal(WayError):
    """The net has no such goal."""

    def __init__(self, goal):
        super().__init__("no goal of the net")
        self.goal = copied(goal)


class NoNode(WayError):
    """The net has no such node."""

    def __init__(self, node):
        super().__init__("no node of the net")
        self.node = copied(node)


class BadPlace(WayError):
    """No place to which a node can hand packets for a goal."""


class BadLot(WayError):
    """No lot of nodes, as it is asked for; part is the name of the parameter."""

    def __init__(self, part):
        super().__init__("no such lot of nodes")
        self.part = copied(part)


class BadWish(WayError):
    """No wish."""


class BadWishes(WayError):
    """No list of different wishes."""


class BadPlan(WayError):
    """No plan; at is the index of the first wrong round, or None."""

    def __init__(self, at):
        super().__init__("no plan")
        self.at = copied(at)


class BadNumber(WayError):
    """No number of the kind that is asked for."""

    def __init__(self, number):
        super().__init__("no such number")
        self.number = copied(number)


class BadSights(WayError):
    """No list of sights; at is the index of the first wrong one, or None."""

    def __init__(self, at):
        super().__init__("no sights")
        self.at = copied(at)


class RoundOpen(WayError):
    """A round is open already."""


class Unsafe(WayError):
    """A round would break a wish."""

    def __init__(self, wish):
        super().__init__("the round breaks a wish")
        self.wish = copied(wish)


class NotSo(WayError):
    """The node cannot change, or be put back, as things are."""

    def __init__(self, node):
        super().__init__("not so with this node")
        self.node = copied(node)


class NoRound(WayError):
    """No round is open."""


class HalfDone(WayError):
    """Some nodes of the open round have changed, and others have not."""


class NoPacket(WayError):
    """No packet has this number, or it is at no node any more."""

    def __init__(self, packet):
        super().__init__("no such packet")
        self.packet = copied(packet)


class NothingDone(WayError):
    """There is no deed that could be taken back."""


class BadJournal(WayError):
    """No journal of a live net; at is the index of the first wrong entry."""

    def __init__(self, at):
        super().__init__("no journal of a live net")
        self.at = copied(at)


class BadText(WayError):
    """A text that cannot be read; line is the number of the first wrong line."""

    def __init__(self, line):
        super().__init__("a text that cannot be read")
        self.line = copied(line)
