"""Journals: what was done with a live net, entry by entry, with the answers."""

from roundways.errors import BadJournal, WayError
from roundways.live import Live
from roundways.nets import is_list

# How many items an entry has, its word and its answer counted.
LENGTHS = {"begin": 3, "change": 3, "put back": 3, "close": 2, "send": 4, "hop": 3, "undo": 1, "done": 2}


def first_wrong(net, wishes, journal):
    """The index of the first entry that a live net does not do as told, None if it does all of them."""
    live = Live(net, wishes)
    return first_refused(live, journal)


def replayed(net, wishes, journal):
    """The live net behind a journal."""
    live = Live(net, wishes)
    wrong = first_refused(live, journal)
    if wrong is not None:
        raise BadJournal(wrong)
    return live


def first_refused(live, journal):
    """The index of the first entry that a live net does not do as told, None if it has done all of them."""
    if not is_list(journal):
        return 0
    for at, entry in enumerate(journal):
        if not is_entry(entry) or not is_done(live, entry):
            return at
    return None


def is_entry(value):
    """Whether any value is a tuple with a word of journals, and with as many items as stand with this word."""
    if not isinstance(value, tuple) or len(value) == 0 or not isinstance(value[0], str):
        return False
    return LENGTHS.get(value[0]) == len(value)


def is_done(live, entry):
    """Whether a live net does what an entry tells, with the answer that it tells."""
    if entry[0] == "done":
        return entry[1] == live.done
    try:
        answer = answer_to(live, entry)
    except WayError:
        return False
    if entry[0] == "undo":
        return True
    # No answer is True or False, but the numbers 1 and 0 are equal to them.
    return entry[-1] == answer and not isinstance(entry[-1], bool)


def answer_to(live, entry):
    """What the live net returns for the deed of an entry, or for an undo."""
    word = entry[0]
    if word == "begin":
        return live.begin(entry[1])
    if word == "change":
        return live.change(entry[1])
    if word == "put back":
        return live.put_back(entry[1])
    if word == "close":
        return live.close()
    if word == "send":
        return live.send(entry[1], entry[2])
    if word == "hop":
        return live.hop(entry[1])
    return live.undo()
