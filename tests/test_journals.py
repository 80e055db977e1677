import unittest

from roundways.errors import BadJournal, BadNet, BadWishes
from roundways.journals import first_wrong, replayed
from roundways.live import Live
from roundways.nets import Net
from values import any_values, losing, nested, other_net, pair, picture, refusal, triangle

RIGHT = [("send", "g", "a", 0), ("begin", ("a",), None), ("hop", 0, "b"), ("change", "a", None), ("put back", "a", None),
         ("change", "a", None), ("close", None), ("done", ("a",)), ("begin", ("b",), None), ("undo",), ("hop", 0, "g")]


class JournalsTest(unittest.TestCase):
    def judged(self, wanted, *entries, net=None, wishes=("rings",)):
        """The index of the first wrong entry; the live net is told behind it only if there is none."""
        for journal in (list(entries), tuple(entries)):
            found = first_wrong(net or pair(), wishes, journal)
            self.assertEqual(found, wanted, entries)
            self.assertIs(type(found), type(wanted))
            if wanted is None:
                self.assertIs(type(replayed(net or pair(), wishes, journal)), Live)
            else:
                refusal(self, BadJournal, wanted, replayed, net or pair(), wishes, journal)

    def test_no_entries(self):
        self.judged(None)
        self.assertEqual(replayed(pair(), ["rings"], []), Live(pair(), ["rings"]))

    def test_each_kind_of_entry(self):
        self.judged(None, *RIGHT)
        live = replayed(pair(), ["rings"], RIGHT)
        self.assertEqual(live.log, [entry[:-1] for entry in RIGHT if entry[0] not in ("done", "undo") and entry[1:2] != (("b",),)])
        self.assertEqual((live.done, live.round, live.passed(0)), (("a",), (), ["a", "b", "g"]))
        for many in range(len(RIGHT)):
            self.judged(None, *RIGHT[:many])

    def test_the_live_net_behind_a_journal(self):
        live = Live(triangle(), ["rings"])
        live.begin(("a", "b"))
        live.change("b")
        live.send("g", "a")
        found = replayed(triangle(), ["rings"], [("begin", ("a", "b"), None), ("change", "b", None), ("send", "g", "a", 0)])
        self.assertEqual(found, live)
        self.assertEqual(picture(found), picture(live))
        found.undo()
        self.assertEqual(found.log, live.log[:2])
        self.assertEqual(replayed(journal=[], wishes=[], net=pair()), Live(pair(), []))

    def test_answers_that_are_wrong_in_value(self):
        self.judged(0, ("send", "g", "a", 1))
        self.judged(1, ("send", "g", "a", 0), ("send", "g", "a", 0))
        self.judged(1, ("send", "g", "a", 0), ("hop", 0, "g"))
        self.judged(1, ("send", "g", "a", 0), ("hop", 0, None))
        self.judged(2, ("send", "g", "a", 0), ("hop", 0, "b"), ("hop", 0, "b"))
        self.judged(0, ("begin", ("a",), "a"))
        self.judged(1, ("begin", ("a",), None), ("change", "a", "g"))
        self.judged(1, ("begin", ("a",), None), ("close", 0))
        self.judged(None, ("send", "g", "c", 0), ("hop", 0, None), net=losing())
        self.judged(1, ("send", "g", "c", 0), ("hop", 0, "-"), net=losing())

    def test_answers_that_are_wrong_in_kind(self):
        self.judged(None, ("send", "g", "a", 0), ("send", "g", "b", 1))
        self.judged(1, ("send", "g", "a", 0), ("send", "g", "b", True))
        self.judged(0, ("send", "g", "a", False))
        self.judged(1, ("send", "g", "a", 0), ("hop", False, "b"))
        self.judged(2, ("send", "g", "a", 0), ("send", "g", "a", 1), ("hop", True, "b"))
        for value in any_values():
            if value is not None:
                self.judged(0, ("begin", ("a",), value))
                self.judged(1, ("begin", ("a",), None), ("change", "a", value))
                self.judged(2, ("begin", ("a",), None), ("change", "a", None), ("put back", "a", value))
                self.judged(1, ("begin", ("a",), None), ("close", value))
            if type(value) is not int or value != 0:
                self.judged(0, ("send", "g", "a", value))
            self.judged(1, ("send", "g", "a", 0), ("hop", 0, value))
        self.judged(1, ("send", "g", "a", 0), ("hop", 0, ["b"]))
        self.judged(1, ("send", "g", "a", 0), ("hop", 0, ("b",)))

    def test_entries_that_are_none(self):
        for value in any_values() + ["undo", ["undo"], [("undo",)], {"undo": 1}, ("redo",), (["undo"],), (("undo",),), ("UNDO",),
                                     ("begin",), ("change", "a"), ("put_back", "a", None), ("putback", "a", None), ("Send", "g", "a", 0)]:
            self.judged(0, value)
            self.judged(1, ("send", "g", "a", 0), value)
            self.judged(len(RIGHT), *RIGHT, value, ("undo",))
        for at, entry in enumerate(RIGHT):
            for wrong in (list(entry), entry[:-1], (*entry, None), (entry,), {0: entry}):
                self.judged(at, *RIGHT[:at], wrong, *RIGHT[at + 1:])

    def test_deeds_that_are_refused(self):
        self.judged(0, ("begin", ("b",), None))
        self.judged(None, ("begin", ("b",), None), wishes=())
        self.judged(0, ("begin", (), None))
        self.judged(0, ("begin", ["a"], None))
        self.judged(0, ("begin", ("b", "a"), None), wishes=())
        self.judged(1, ("begin", ("a",), None), ("begin", ("b",), None))
        self.judged(0, ("close", None))
        self.judged(2, ("begin", ("a", "b"), None), ("change", "b", None), ("close", None), wishes=())
        self.judged(1, ("begin", ("a",), None), ("change", "b", None))
        self.judged(1, ("begin", ("a",), None), ("put back", "a", None))
        self.judged(0, ("send", "a", "a", 0))
        self.judged(0, ("send", "g", "g", 0))
        self.judged(0, ("hop", 0, "b"))
        self.judged(2, ("send", "g", "b", 0), ("hop", 0, "g"), ("hop", 0, "g"))
        for value in any_values():
            self.judged(0, ("begin", value, None))
            self.judged(1, ("begin", ("a",), None), ("change", value, None))
            self.judged(0, ("send", value, "a", 0))
            self.judged(0, ("send", "g", value, 0))
            if type(value) is not int or value != 0:
                self.judged(1, ("send", "g", "a", 0), ("hop", value, "b"))

    def test_undo(self):
        self.judged(0, ("undo",))
        self.judged(None, ("send", "g", "a", 0), ("undo",), ("send", "g", "b", 0))
        self.judged(2, ("send", "g", "a", 0), ("undo",), ("undo",))
        self.judged(4, ("send", "g", "a", 0), ("hop", 0, "b"), ("undo",), ("undo",), ("undo",), ("close", None))
        self.judged(1, ("send", "g", "a", 0), ("undo", None))
        self.assertEqual(replayed(pair(), [], [("send", "g", "a", 0), ("undo",)]), Live(pair(), []))

    def test_done(self):
        self.judged(None, ("done", ()))
        self.judged(0, ("done", ("a",)))
        whole = [("begin", ("a",), None), ("change", "a", None), ("done", ()), ("close", None), ("done", ("a",))]
        self.judged(None, *whole)
        self.judged(4, *whole[:4], ("done", ()))
        self.judged(4, *whole[:4], ("done", ["a"]))
        self.judged(4, *whole[:4], ("done", "a"))
        self.judged(4, *whole[:4], ("done", ("b",)))
        self.judged(4, *whole[:4], ("done", ("a", "b")))
        self.judged(4, *whole[:4], ("done",))
        self.judged(4, *whole[:4], ("done", ("a",), None))
        for value in any_values():
            if value != () or isinstance(value, list):
                self.judged(0, ("done", value))

    def test_the_first_wrong_one_is_told(self):
        self.judged(1, ("send", "g", "a", 0), ("hop", 0, "g"), ("hop", 0, "b"), None)
        self.judged(3, *RIGHT[:3], None, ("undo", 1), [])

    def test_no_list(self):
        for value in any_values() + ["undo", {("undo",): 1}, {0: ("send", "g", "a", 0)}, 0]:
            if not isinstance(value, (list, tuple)):
                self.assertEqual(first_wrong(pair(), [], value), 0)
                refusal(self, BadJournal, 0, replayed, pair(), [], value)
            elif value:
                self.assertEqual(first_wrong(pair(), [], value), 0)
        self.assertEqual(first_wrong(pair(), [], ("undo",)), 0)
        self.assertEqual(first_wrong(pair(), [], nested(RIGHT, 1)), 0)
        self.assertEqual(first_wrong(pair(), [], RIGHT[0]), 0)

    def test_errors(self):
        for function in (first_wrong, replayed):
            for value in any_values() + [pair().tables]:
                if not isinstance(value, Net):
                    refusal(self, BadNet, "net", function, value, None, None)
            for value in any_values() + ["home", ["ring"], ["home", "home"]]:
                if value not in ([], ()):
                    refusal(self, BadWishes, ..., function, other_net(), value, None)
        refusal(self, BadJournal, 0, replayed, other_net(), [], None)

    def test_what_was_passed_is_not_changed(self):
        journal, wishes = list(RIGHT), ["rings"]
        before = picture(journal)
        live = replayed(pair(), wishes, journal)
        told = picture(live)
        self.assertEqual((picture(journal), wishes), (before, ["rings"]))
        journal.append(("undo",))
        wishes.append("home")
        self.assertEqual(picture(live), told)
        self.assertEqual(len(replayed(pair(), ["rings"], journal).log), len(live.log) - 1)
        live.undo()
        live.undo()
        self.assertIsNone(first_wrong(pair(), ["rings"], RIGHT))
        self.assertEqual(picture(replayed(pair(), ("rings",), tuple(RIGHT))), told)

    def test_hundred_entries(self):
        journal = [("send", "g", "a", 0), ("undo",)] * 50
        self.judged(None, *journal)
        self.judged(98, *journal[:98], ("hop", 0, "b"))


if __name__ == "__main__":
    unittest.main()
