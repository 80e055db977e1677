import unittest

from roundways.errors import (BadLot, BadNet, BadWishes, HalfDone, NoGoal, NoNode, NoPacket, NoRound, NotSo, NothingDone,
                              RoundOpen, Unsafe)
from roundways.live import Live
from roundways.nets import Net
from values import any_values, chain, closing, crossed, double, losing, other_net, pair, picture, refusal, still, triangle

ALL = ["home", "lost", "posts", "rings"]


class Left(Exception):
    """Raised to leave a block."""


def leave(live):
    raise Left


def whole_round(live, nodes):
    live.begin(nodes)
    for node in nodes:
        live.change(node)
    live.close()


class LiveTest(unittest.TestCase):
    def refused(self, error, told, method, *given):
        """A call that is refused, by position and by name, and changes nothing."""
        before = picture(method.__self__)
        names = {"begin": ["nodes"], "change": ["node"], "put_back": ["node"], "send": ["goal", "node"], "hop": ["packet"],
                 "passed": ["packet"], "fates": ["packet"]}.get(method.__name__, [])
        refusal(self, error, told, method, *given)
        refusal(self, error, told, method, **dict(zip(names, given)))
        self.assertEqual(picture(method.__self__), before)

    def told(self, live, done, lot, changed):
        self.assertEqual((live.done, live.round, live.changed), (done, lot, changed))
        for value in (live.done, live.round, live.changed, live.wishes):
            self.assertIs(type(value), tuple)


class RoundsTest(LiveTest):
    def test_at_first(self):
        live = Live(pair(), ["rings", "home"])
        self.told(live, (), (), ())
        self.assertEqual((live.net, live.wishes, live.log), (pair(), ("home", "rings"), []))
        self.assertEqual(live.next_rounds(), [("a",)])
        self.assertEqual(Live(pair(), []).wishes, ())
        self.assertEqual(Live(net=pair(), wishes=("lost",)), Live(pair(), ["lost"]))

    def test_a_round_with_all_nodes_changed(self):
        live = Live(triangle(), ["rings"])
        live.begin(("a", "b"))
        self.told(live, (), ("a", "b"), ())
        live.change("b")
        self.told(live, (), ("a", "b"), ("b",))
        live.change("a")
        self.told(live, (), ("a", "b"), ("a", "b"))
        live.close()
        self.told(live, ("a", "b"), (), ())
        whole_round(live, ("c",))
        self.told(live, ("a", "b", "c"), (), ())
        self.assertEqual(live.log, [("begin", ("a", "b")), ("change", "b"), ("change", "a"), ("close",), ("begin", ("c",)),
                                    ("change", "c"), ("close",)])

    def test_a_round_that_is_given_up(self):
        live = Live(triangle(), ["rings"])
        live.begin(("a", "b"))
        live.close()
        self.told(live, (), (), ())
        self.assertEqual(live.log, [("begin", ("a", "b")), ("close",)])
        live.begin(("b",))
        live.change("b")
        live.put_back("b")
        self.told(live, (), ("b",), ())
        live.close()
        self.told(live, (), (), ())
        whole_round(live, ("a",))
        live.begin(("b", "c")[:1])
        live.close()
        self.told(live, ("a",), (), ())

    def test_a_round_that_is_half_done(self):
        live = Live(triangle(), ["rings"])
        live.begin(("a", "b"))
        live.change("a")
        self.refused(HalfDone, ..., live.close)
        live.put_back("a")
        live.change("b")
        self.refused(HalfDone, ..., live.close)
        live.change("a")
        live.close()
        self.told(live, ("a", "b"), (), ())

    def test_put_back_then_closed(self):
        live = Live(triangle(), [])
        live.begin(("a", "b", "c"))
        for node in ("a", "b", "c"):
            live.change(node)
        for node in ("b", "c", "a"):
            live.put_back(node)
        live.close()
        self.told(live, (), (), ())
        self.assertEqual(len(live.log), 8)

    def test_no_documented_result_is_none(self):
        live = Live(pair(), [])
        for call in (lambda: live.begin(("a",)), lambda: live.change("a"), lambda: live.put_back("a"), live.close, live.undo):
            self.assertIsNone(call())

    def test_begin_is_refused(self):
        live = Live(triangle(), ALL)
        self.refused(Unsafe, "posts", live.begin, ("a",))
        self.refused(Unsafe, "home", live.begin, ("c",))
        self.refused(Unsafe, "home", Live(triangle(), ["posts", "home"]).begin, ("a", "c"))
        self.refused(Unsafe, "rings", Live(triangle(), ["rings"]).begin, ("a", "c"))
        self.refused(Unsafe, "home", Live(triangle(), ["rings", "home"]).begin, ("c",))
        for value in any_values() + [["b"], ("b", "a"), ("d",), ("a", "a"), "a", ("g",), {"b": 1}, (("b",),)]:
            self.refused(BadLot, "nodes", live.begin, value)
        self.refused(BadLot, "nodes", live.begin, ())
        live.begin(("b",))
        for value in (("c",), ("b",), (), None, ("a",)):
            self.refused(RoundOpen, ..., live.begin, value)
        live.change("b")
        self.refused(RoundOpen, ..., live.begin, ("c",))
        live.close()
        self.refused(BadLot, "nodes", live.begin, ("b",))
        self.refused(BadLot, "nodes", live.begin, ("b", "c"))
        self.refused(Unsafe, "posts", live.begin, ("a",))
        live.begin(("c",))

    def test_no_nodes_that_do_not_change(self):
        live = Live(double(), [])
        self.refused(BadLot, "nodes", live.begin, ("d",))
        self.refused(BadLot, "nodes", live.begin, ("a", "d"))
        live.begin(("a", "b"))
        self.refused(NotSo, "d", live.change, "d")
        self.refused(BadLot, "nodes", Live(still(), []).begin, ("a",))

    def test_change_and_put_back_are_refused(self):
        live = Live(triangle(), ["rings"])
        for node in ("a", "b", None):
            self.refused(NotSo, node, live.change, node)
            self.refused(NotSo, node, live.put_back, node)
        live.begin(("a", "b"))
        for value in any_values() + ["c", "g", ("a",), ["a"], ("a", "b")]:
            self.refused(NotSo, value, live.change, value)
            self.refused(NotSo, value, live.put_back, value)
        self.refused(NotSo, "a", live.put_back, "a")
        live.change("a")
        self.refused(NotSo, "a", live.change, "a")
        self.refused(NotSo, "b", live.put_back, "b")
        live.change("b")
        live.close()
        for node in ("a", "b", "c"):
            self.refused(NotSo, node, live.change, node)
            self.refused(NotSo, node, live.put_back, node)

    def test_close_and_undo_are_refused(self):
        live = Live(triangle(), ["rings"])
        self.refused(NoRound, ..., live.close)
        self.refused(NothingDone, ..., live.undo)
        live.send("g", "a")
        self.refused(NoRound, ..., live.close)
        live.undo()
        self.refused(NothingDone, ..., live.undo)
        live.begin(("b",))
        live.close()
        self.refused(NoRound, ..., live.close)

    def test_what_makes_no_live_net(self):
        for value in any_values() + [pair().tables]:
            if not isinstance(value, Net):
                refusal(self, BadNet, "net", Live, value, None)
        for value in any_values() + ["home", ["ring"], ["home", "home"], {"home": 1}, [["home"]], 0]:
            if value not in ([], ()):
                refusal(self, BadWishes, ..., Live, pair(), value)
                refusal(self, BadWishes, ..., Live, wishes=value, net=pair())

    def test_next_rounds(self):
        live = Live(triangle(), ["posts", "rings"])
        for nodes in (("b",), ("c",), ("a",)):
            self.assertEqual(live.next_rounds(), [nodes])
            live.begin(nodes)
            self.assertEqual(live.next_rounds(), [])
            live.change(nodes[0])
            self.assertEqual(live.next_rounds(), [])
            live.close()
        self.assertEqual(live.next_rounds(), [()])
        self.assertEqual(Live(triangle(), ["rings"]).next_rounds(), [("a", "b")])
        self.assertEqual(Live(closing(), ["rings"]).next_rounds(), [("a", "b"), ("a", "c"), ("b", "c")])
        self.assertEqual(Live(still(), ALL).next_rounds(), [()])
        self.assertEqual(Live(still(["c", "b"]), ALL).next_rounds(), [])
        self.assertEqual(Live(crossed(), ["rings"]).next_rounds(), [()])
        self.assertEqual(Live(closing().turned(), ["home"]).next_rounds(), [])


class PacketsTest(LiveTest):
    def test_packets_go_by_the_ways_of_now(self):
        live = Live(pair(), ["rings"])
        self.assertEqual((live.send("g", "a"), live.send("g", "a"), live.send("g", "b")), (0, 1, 2))
        self.assertEqual(live.hop(0), "b")
        live.begin(("a",))
        self.assertEqual(live.hop(2), "g")
        live.change("a")
        self.assertEqual(live.hop(1), "g")
        live.close()
        live.begin(("b",))
        live.change("b")
        self.assertEqual(live.hop(0), "a")
        self.assertEqual(live.hop(0), "g")
        self.assertEqual([live.passed(packet) for packet in range(3)], [["a", "b", "a", "g"], ["a", "g"], ["b", "g"]])
        self.assertEqual(live.log[:4], [("send", "g", "a"), ("send", "g", "a"), ("send", "g", "b"), ("hop", 0)])
        self.assertEqual(live.send("g", "a"), 3)

    def test_put_back_gives_the_old_way_again(self):
        live = Live(pair(), [])
        live.begin(("a",))
        live.change("a")
        live.put_back("a")
        live.send("g", "a")
        self.assertEqual(live.hop(0), "b")

    def test_goals_of_two(self):
        live = Live(crossed(), [])
        live.send("h", "a")
        live.send("g", "a")
        live.begin(("a",))
        live.change("a")
        self.assertEqual([live.hop(0), live.hop(1)], ["b", "g"])
        self.assertEqual([live.hop(0), live.hop(0)], ["a", "b"])
        self.assertEqual(live.fates(0), ("ring",))
        self.refused(NoPacket, 1, live.hop, 1)
        self.refused(NoGoal, "a", live.send, "a", "a")

    def test_lost_packets(self):
        live = Live(losing(), [])
        live.send("g", "c")
        self.assertIsNone(live.hop(0))
        self.assertEqual(live.passed(0), ["c", None])
        self.refused(NoPacket, 0, live.hop, 0)
        self.refused(NoPacket, 0, live.fates, 0)
        self.assertEqual(live.log, [("send", "g", "c"), ("hop", 0)])

    def test_packets_are_refused(self):
        live = Live(pair(), [])
        for value in any_values() + [0, 1, "0"]:
            for method in (live.hop, live.passed, live.fates):
                self.refused(NoPacket, value, method, value)
        live.send("g", "b")
        live.send("g", "b")
        live.hop(0)
        self.assertEqual(live.passed(0), ["b", "g"])
        self.refused(NoPacket, 0, live.hop, 0)
        self.refused(NoPacket, 0, live.fates, 0)
        for value in any_values() + [2, -1, "0", (0,), [0], 10 ** 999]:
            if type(value) is not int or value not in (0, 1):
                for method in (live.hop, live.passed, live.fates):
                    self.refused(NoPacket, value, method, value)

    def test_send_is_refused(self):
        live = Live(pair(), [])
        for value in any_values() + ["a", "h", ["g"], ("g",)]:
            self.refused(NoGoal, value, live.send, value, "a")
            self.refused(NoGoal, value, live.send, value, None)
        for value in any_values() + ["g", "c", ["a"], ("a",)]:
            self.refused(NoNode, value, live.send, "g", value)
        self.assertEqual(live.send(node="a", goal="g"), 0)

    def test_fates(self):
        live = Live(pair(), [])
        live.send("g", "a")
        live.send("g", "b")
        self.assertEqual(live.fates(0), ("goal",))
        live.begin(("a", "b"))
        self.assertEqual((live.fates(0), live.fates(1)), (("goal", "ring"), ("goal", "ring")))
        live.change("a")
        self.assertEqual((live.fates(0), live.fates(1)), (("goal",), ("goal",)))
        live.put_back("a")
        live.change("b")
        self.assertEqual((live.fates(0), live.fates(1)), (("goal", "ring"), ("goal", "ring")))
        live.undo()
        live.undo()
        live.undo()
        live.undo()
        live.begin(("b",))
        live.change("b")
        self.assertEqual((live.fates(0), live.fates(1)), (("ring",), ("ring",)))
        live.close()
        self.assertEqual((live.fates(0), live.fates(1)), (("ring",), ("ring",)))
        live.begin(("a",))
        self.assertEqual((live.fates(0), live.fates(1)), (("goal", "ring"), ("goal", "ring")))

    def test_fates_are_counted_from_now(self):
        # The packet comes back to a, where it was before, but to no node twice from now on.
        live = Live(pair(), ["rings"])
        live.send("g", "a")
        live.hop(0)
        whole_round(live, ("a",))
        live.begin(("b",))
        self.assertEqual(live.fates(0), ("goal",))
        live.change("b")
        self.assertEqual(live.fates(0), ("goal",))
        self.assertEqual(live.hop(0), "a")
        self.assertEqual(live.fates(0), ("goal",))
        self.assertEqual(live.passed(0), ["a", "b", "a"])

    def test_all_three_fates(self):
        old = {"a": "b", "b": None, "c": "g"}
        new = {"a": "c", "b": "a", "c": "g"}
        live = Live(Net({"g": (old, new)}), [])
        live.send("g", "a")
        self.assertEqual(live.fates(0), ("lost",))
        live.begin(("a", "b"))
        self.assertEqual(live.fates(0), ("goal", "lost", "ring"))
        live.change("b")
        self.assertEqual(live.fates(0), ("goal", "ring"))
        live.change("a")
        self.assertEqual(live.fates(0), ("goal",))
        live.put_back("b")
        self.assertEqual(live.fates(0), ("goal",))

    def test_fates_wait_for_no_other_round(self):
        live = Live(losing(), [])
        live.send("g", "a")
        self.assertEqual(live.fates(0), ("goal",))
        live.begin(("c",))
        self.assertEqual(live.fates(0), ("goal",))
        live.close()
        live.begin(("b",))
        self.assertEqual(live.fates(0), ("goal", "lost"))
        live.hop(0)
        live.change("b")
        self.assertEqual(live.fates(0), ("lost",))
        live.hop(0)
        self.assertEqual(live.fates(0), ("lost",))


class UndoTest(LiveTest):
    def test_each_kind_of_deed(self):
        live = Live(triangle(), ["rings"])
        pictures = [picture(live)]
        for deed in (lambda: live.send("g", "a"), lambda: live.begin(("a", "b")), lambda: live.change("a"), lambda: live.hop(0),
                     lambda: live.put_back("a"), lambda: live.change("b"), lambda: live.change("a"), lambda: live.send("g", "b"),
                     live.close, lambda: live.begin(("c",)), live.close, lambda: live.hop(1)):
            deed()
            pictures.append(picture(live))
        self.assertEqual(len(live.log), 12)
        while live.log:
            self.assertEqual(picture(live), pictures[len(live.log)])
            live.undo()
        self.assertEqual(picture(live), pictures[0])
        self.refused(NothingDone, ..., live.undo)

    def test_numbers_are_of_the_sends_that_stand(self):
        live = Live(pair(), [])
        live.send("g", "a")
        self.assertEqual(live.send("g", "b"), 1)
        live.hop(0)
        live.hop(1)
        for _ in range(3):
            live.undo()
        self.assertEqual(live.log, [("send", "g", "a")])
        self.refused(NoPacket, 1, live.passed, 1)
        self.assertEqual(live.send("g", "a"), 1)
        self.assertEqual((live.passed(0), live.passed(1)), (["a"], ["a"]))
        for _ in range(2):
            live.undo()
        self.refused(NoPacket, 0, live.passed, 0)
        self.assertEqual(live.send("g", "b"), 0)

    def test_of_a_refused_deed_there_is_nothing_to_undo(self):
        live = Live(pair(), ["rings"])
        live.send("g", "a")
        self.refused(Unsafe, "rings", live.begin, ("b",))
        self.refused(NoPacket, 1, live.hop, 1)
        live.undo()
        self.assertEqual(live.log, [])


class BlocksTest(LiveTest):
    def test_a_block_that_is_left_by_an_exception(self):
        live = Live(triangle(), ["rings"])
        live.send("g", "a")
        live.begin(("a", "b"))
        before = picture(live)
        with self.assertRaises(Left):
            with live as same:
                self.assertIs(same, live)
                live.change("a")
                live.hop(0)
                live.change("b")
                live.close()
                live.send("g", "c")
                raise Left
        self.assertEqual(picture(live), before)
        live.change("b")
        self.told(live, (), ("a", "b"), ("b",))

    def test_errors_of_the_live_net_leave_a_block_as_well(self):
        live = Live(triangle(), ["rings"])
        with self.assertRaises(RoundOpen):
            with live:
                live.begin(("a",))
                live.begin(("b",))
        self.assertEqual(live.log, [])
        with self.assertRaises(KeyboardInterrupt):
            with live:
                live.begin(("a",))
                raise KeyboardInterrupt
        self.assertEqual(live.log, [])

    def test_a_block_that_ends_is_kept(self):
        live = Live(triangle(), ["rings"])
        with live:
            live.begin(("a",))
            with self.assertRaises(NotSo):
                live.change("b")
        self.assertEqual(live.log, [("begin", ("a",))])
        live.undo()
        self.assertEqual(live.log, [])

    def test_nested_blocks(self):
        live = Live(triangle(), [])
        with live:
            live.send("g", "a")
            with self.assertRaises(Left):
                with live:
                    live.send("g", "b")
                    with live:
                        live.send("g", "c")
                    self.assertEqual(len(live.log), 3)
                    raise Left
            self.assertEqual(live.log, [("send", "g", "a")])
            live.hop(0)
        self.assertEqual(live.log, [("send", "g", "a"), ("hop", 0)])
        with self.assertRaises(Left):
            with live:
                with live:
                    live.hop(0)
                with self.assertRaises(Left):
                    with live:
                        live.send("g", "b")
                        raise Left
                self.assertEqual(len(live.log), 3)
                raise Left
        self.assertEqual(live.log, [("send", "g", "a"), ("hop", 0)])

    def test_what_was_done_ahead_of_a_block_is_taken_back(self):
        live = Live(pair(), [])
        live.send("g", "a")
        live.hop(0)
        with self.assertRaises(Left):
            with live:
                live.undo()
                live.undo()
                self.assertEqual(live.log, [])
                live.send("g", "b")
                raise Left
        self.assertEqual((live.log, live.passed(0)), ([("send", "g", "a"), ("hop", 0)], ["a", "b"]))
        with live:
            live.undo()
            live.undo()
            live.send("g", "b")
        self.assertEqual((live.log, live.passed(0)), ([("send", "g", "b")], ["b"]))
        with live:
            live.hop(0)
        live.undo()
        live.undo()
        self.refused(NothingDone, ..., live.undo)

    def test_tried(self):
        live = Live(triangle(), ["rings"])
        self.assertEqual(live.tried(lambda same: (same is live, same.send("g", "a"))), (True, 0))
        self.assertEqual(live.log, [("send", "g", "a")])
        with self.assertRaises(Left):
            live.tried(leave)
        with self.assertRaises(NotSo):
            live.tried(work=lambda same: [same.hop(0), same.begin(("a",)), same.change("b")])
        self.assertEqual(live.log, [("send", "g", "a")])
        self.assertIsNone(live.tried(lambda same: same.undo()))
        self.assertEqual(live.log, [])
        self.assertEqual(live.tried(lambda same: same.tried(lambda again: again.send("g", "b"))), 0)
        with self.assertRaises(Left):
            live.tried(lambda same: [same.undo(), same.tried(lambda again: again.send("g", "c")), leave(same)])
        self.assertEqual(live.log, [("send", "g", "b")])


class CopiesTest(LiveTest):
    def test_a_copy_goes_its_own_way(self):
        live = Live(triangle(), ["rings"])
        live.begin(("a", "b"))
        other = live.copy()
        self.assertIsNot(other, live)
        self.assertEqual(other, live)
        self.assertEqual(picture(other), picture(live))
        other.change("a")
        self.told(live, (), ("a", "b"), ())
        live.change("b")
        live.send("g", "a")
        self.told(other, (), ("a", "b"), ("a",))
        self.refused(NoPacket, 0, other.passed, 0)
        other.undo()
        other.undo()
        self.refused(NothingDone, ..., other.undo)
        self.assertEqual(len(live.log), 3)

    def test_a_copy_is_in_no_block(self):
        live = Live(pair(), [])
        live.send("g", "a")
        with self.assertRaises(Left):
            with live:
                live.hop(0)
                other = live.copy()
                other.hop(0)
                raise Left
        self.assertEqual((live.passed(0), other.passed(0)), (["a"], ["a", "b", "g"]))
        with live:
            live.hop(0)
            other = live.copy()
            with self.assertRaises(Left):
                with other:
                    other.undo()
                    other.undo()
                    live.hop(0)
                    raise Left
            self.assertEqual((live.passed(0), other.passed(0)), (["a", "b", "g"], ["a", "b"]))
        self.assertEqual(live.passed(0), ["a", "b", "g"])

    def test_a_copy_of_a_copy(self):
        live = Live(pair(), ["rings"])
        other = live.copy()
        other.begin(("a",))
        third = other.copy()
        third.change("a")
        self.assertEqual([len(one.log) for one in (live, other, third)], [0, 1, 2])


class EqualTest(LiveTest):
    def test_equal_by_equal_deeds(self):
        first, second = Live(triangle(), ["rings", "home"]), Live(triangle(), ("home", "rings"))
        self.assertEqual(first, second)
        first.begin(("b",))
        self.assertNotEqual(first, second)
        second.begin(("b",))
        self.assertEqual(first, second)
        self.assertIs(first == second, True)
        self.assertIs(first != second, False)

    def test_equal_by_deeds_that_were_taken_back(self):
        first, second = Live(triangle(), []), Live(triangle(), [])
        first.begin(("a",))
        first.undo()
        self.assertEqual(first, second)
        with self.assertRaises(Left):
            first.tried(lambda live: [live.send("g", "a"), leave(live)])
        self.assertEqual(first, second)

    def test_not_equal(self):
        first, second = Live(triangle(), []), Live(triangle(), [])
        first.send("g", "a")
        first.begin(("a",))
        second.begin(("a",))
        second.send("g", "a")
        self.assertNotEqual(first, second)
        given_up = Live(triangle(), [])
        given_up.begin(("a",))
        given_up.close()
        self.assertNotEqual(given_up, Live(triangle(), []))
        self.assertNotEqual(Live(triangle(), []), Live(triangle(), ["home"]))
        self.assertNotEqual(Live(triangle(), []), Live(pair(), []))
        self.assertNotEqual(Live(triangle(), []), Live(triangle().turned(), []))
        self.assertNotEqual(Live(pair(), []), Live(Net(pair().tables, ["a"]), []))

    def test_equal_nets(self):
        tables = double().tables
        turned = {goal: tuple(dict(reversed(list(table.items()))) for table in tables[goal]) for goal in ("h", "g")}
        self.assertEqual(Live(Net(tables, ["a"]), []), Live(Net(turned, ("a",)), ()))
        self.assertEqual(Live(pair().turned().turned(), []), Live(pair(), []))

    def test_to_no_value_of_another_kind(self):
        live = Live(other_net(), [])
        for value in any_values() + [live.net, live.log, (live.net, (), [])]:
            if not isinstance(value, Live):
                self.assertIs(live == value, False)
                self.assertIs(value == live, False)
                self.assertIs(live != value, True)

    def test_objects_cannot_be_iterated_over(self):
        live = Live(pair(), [])
        live.send("g", "a")
        for value in (live, live.net):
            for call in (iter, list, tuple, sorted, lambda one: "a" in one, lambda one: [*one]):
                with self.assertRaises(TypeError):
                    call(value)


class ReturnedTest(LiveTest):
    def test_what_is_returned_is_new(self):
        live = Live(closing(), ["rings"])
        live.send("g", "a")
        before = picture(live)
        for value in (live.log, live.passed(0), live.next_rounds()):
            value.append("spoiled")
            value[0] = "spoiled"
        self.assertEqual(picture(live), before)
        live.net.tables["g"][0]["a"] = None
        self.assertEqual(picture(live), before)
        self.assertEqual(live.passed(packet=0), ["a"])
        self.assertEqual(live.fates(packet=0), ("goal",))

    def test_later_changes_of_what_was_passed(self):
        tables, wishes = triangle().tables, ["rings"]
        live = Live(Net(tables, ["a"]), wishes)
        tables["g"][0]["a"] = "g"
        wishes.append("home")
        self.assertEqual((live.wishes, live.net.tables), (("rings",), triangle().tables))
        wishes.clear()
        self.refused(Unsafe, "rings", live.begin, ("c",))

    def test_properties_cannot_be_set(self):
        live = Live(pair(), [])
        for name in ("net", "wishes", "done", "round", "changed", "log"):
            with self.assertRaises(AttributeError):
                setattr(live, name, ())

    def test_by_names(self):
        live = Live(wishes=["rings"], net=pair())
        live.begin(nodes=("a",))
        live.change(node="a")
        live.put_back(node="a")
        self.assertEqual(live.send(goal="g", node="a"), 0)
        self.assertEqual(live.hop(packet=0), "b")
        self.assertEqual(live.log, [("begin", ("a",)), ("change", "a"), ("put back", "a"), ("send", "g", "a"), ("hop", 0)])

    def test_six_nodes(self):
        live = Live(chain(), ["rings"])
        self.assertEqual(live.next_rounds(), [("a",)])
        whole_round(live, ("a",))
        self.assertEqual(live.next_rounds(), [("b", "c", "d", "e", "f")])
        whole_round(live, ("b", "c", "d", "e", "f"))
        self.told(live, tuple("abcdef"), (), ())
        live.send("goal", "f")
        self.assertEqual([live.hop(0), live.hop(0), live.passed(0)], ["a", "goal", ["f", "a", "goal"]])


if __name__ == "__main__":
    unittest.main()
