"""A desk: a live net that is asked by lines, and answers in words."""

from roundways.costs import cost
from roundways.errors import WayError
from roundways.live import Live
from roundways.nets import is_name
from roundways.texts import node_words, place_word, read_net

# How many names stand behind a word.
NAMES = {"change": 1, "put": 1, "close": 0, "undo": 0, "send": 2, "done": 0, "open": 0, "next": 0, "cost": 0}
# The words behind which the number of a packet stands.
ABOUT_PACKETS = ("hop", "passed", "fates")
MOST_FIGURES = 3


class Desk:
    """A desk with a live net."""

    def __init__(self, text, wishes):
        self._live = Live(read_net(text), wishes)

    def reply(self, line):
        """The answer to a line."""
        if not is_line(line):
            return "not understood"
        word, *rest = line.split(" ")
        try:
            return answer_to(self._live, word, rest)
        except WayError as error:
            return "error " + error.__class__.__name__


def is_line(value):
    """Whether any value is a line that a desk understands."""
    if not isinstance(value, str):
        return False
    word, *rest = value.split(" ")
    if word in ABOUT_PACKETS:
        return len(rest) == 1 and are_figures(rest[0])
    if not all([is_name(name) for name in rest]):
        return False
    return len(rest) > 0 if word == "begin" else NAMES.get(word) == len(rest)


def are_figures(word):
    """Whether a word is a number of few figures without leading zeros."""
    if not 1 <= len(word) <= MOST_FIGURES or not all(["0" <= sign <= "9" for sign in word]):
        return False
    return word == "0" or word[0] != "0"


def answer_to(live, word, rest):
    """The answer to a line that is understood."""
    if word in ABOUT_PACKETS:
        return packet_answer(live, word, int(rest[0]))
    if word == "send":
        return str(live.send(rest[0], rest[1]))
    if word == "done":
        return node_words(live.done)
    if word == "open":
        return node_words(live.round)
    if word == "next":
        return round_words(live.next_rounds())
    if word == "cost":
        return cost_word(cost(live.net, live.wishes))
    do_deed(live, word, rest)
    return "ok"


def packet_answer(live, word, packet):
    """The answer to a line about a packet."""
    if word == "hop":
        return place_word(live.hop(packet))
    if word == "passed":
        return " ".join([place_word(place) for place in live.passed(packet)])
    return " ".join(live.fates(packet))


def do_deed(live, word, rest):
    """Do what a line tells to do."""
    if word == "begin":
        live.begin(tuple(rest))
    elif word == "change":
        live.change(rest[0])
    elif word == "put":
        live.put_back(rest[0])
    elif word == "close":
        live.close()
    else:
        live.undo()


def round_words(rounds):
    """The words for rounds, of which there may be none."""
    return "; ".join([node_words(lot) for lot in rounds]) if rounds else "none"


def cost_word(many):
    """The word for a number of rounds, or for no plan."""
    return "never" if many is None else str(many)
