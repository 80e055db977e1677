import random
import re
import unittest

import plain_texts
from plain import Plain, random_net
from plain_live import random_wishes
from roundways.desk import Desk
from roundways.errors import BadText, BadWishes, WayError
from roundways.live import Live
from roundways.nets import Net
from roundways.texts import net_text
from values import any_values, chain, closing, crossed, losing, pair, picture, refusal, still, triangle

NOT_UNDERSTOOD = "not understood"


def desk_of(net, wishes=()):
    return Desk(plain_texts.written(net), wishes)


class DeskTest(unittest.TestCase):
    def replies(self, desk, *pairs):
        """Lines and their answers, one behind the other."""
        for line, wanted in pairs:
            before = picture(desk)
            found = desk.reply(line)
            self.assertEqual(found, wanted, line)
            self.assertIs(type(found), str)
            if wanted.startswith("error") or wanted == NOT_UNDERSTOOD:
                self.assertEqual(picture(desk), before)

    def test_deeds(self):
        self.replies(
            desk_of(triangle(), ["rings"]),
            ("begin a b", "ok"), ("change a", "ok"), ("open", "a b"), ("done", "-"), ("put a", "ok"), ("change b", "ok"),
            ("change a", "ok"), ("close", "ok"), ("done", "a b"), ("open", "-"), ("undo", "ok"), ("done", "-"), ("open", "a b"),
            ("close", "ok"), ("begin c", "ok"), ("close", "ok"), ("done", "a b"), ("undo", "ok"), ("undo", "ok"), ("open", "-"))

    def test_packets(self):
        self.replies(
            desk_of(losing()), ("send g a", "0"), ("send g c", "1"), ("hop 1", "-"), ("passed 1", "c -"), ("passed 0", "a"),
            ("hop 0", "b"), ("fates 0", "goal"), ("begin b", "ok"), ("fates 0", "goal lost"), ("change b", "ok"), ("fates 0", "lost"),
            ("hop 0", "c"), ("passed 0", "a b c"), ("hop 0", "-"), ("passed 0", "a b c -"), ("send g b", "2"), ("undo", "ok"),
            ("send g c", "2"), ("close", "ok"), ("done", "b"))
        self.replies(desk_of(pair()), ("send g a", "0"), ("begin a b", "ok"), ("fates 0", "goal ring"), ("hop 0", "b"), ("hop 0", "g"),
                     ("passed 0", "a b g"), ("fates 0", "error NoPacket"))

    def test_rounds_and_costs(self):
        self.replies(desk_of(triangle(), ["rings"]), ("next", "a b"), ("cost", "2"), ("begin b", "ok"), ("next", "none"), ("cost", "2"),
                     ("change b", "ok"), ("close", "ok"), ("next", "a c"), ("cost", "2"))
        self.replies(desk_of(triangle(), ["posts", "rings"]), ("next", "b"), ("cost", "3"))
        self.replies(desk_of(closing(), ["rings"]), ("next", "a b; a c; b c"), ("cost", "never"))
        self.replies(desk_of(closing(), ["lost"]), ("next", "a b c"), ("cost", "1"))
        self.replies(desk_of(crossed(), ["rings"]), ("next", "-"), ("cost", "never"))
        self.replies(desk_of(still(), ["rings"]), ("next", "-"), ("cost", "0"), ("done", "-"), ("open", "-"))
        self.replies(desk_of(still(["c", "b"]), ["posts"]), ("next", "none"), ("cost", "never"))
        self.replies(desk_of(pair()), ("cost", "1"), ("begin a b", "ok"), ("change a", "ok"), ("change b", "ok"), ("close", "ok"),
                     ("next", "-"), ("cost", "1"))
        self.replies(desk_of(chain(), ["rings"]), ("cost", "2"), ("next", "a"))

    def test_each_error(self):
        self.replies(
            desk_of(triangle(), ["home", "rings"]), ("undo", "error NothingDone"), ("close", "error NoRound"), ("begin c", "error Unsafe"),
            ("change a", "error NotSo"), ("put a", "error NotSo"), ("begin b a", "error BadLot"), ("begin a a", "error BadLot"),
            ("begin d", "error BadLot"), ("begin goal", "error BadLot"), ("send a a", "error NoGoal"), ("send g g", "error NoNode"),
            ("send z z", "error NoGoal"), ("hop 0", "error NoPacket"), ("passed 0", "error NoPacket"), ("fates 0", "error NoPacket"),
            ("begin a b", "ok"), ("begin c", "error RoundOpen"), ("begin z", "error RoundOpen"), ("put a", "error NotSo"),
            ("change a", "ok"), ("change a", "error NotSo"), ("change c", "error NotSo"), ("close", "error HalfDone"),
            ("put b", "error NotSo"), ("hop 999", "error NoPacket"), ("send g a", "0"), ("hop 1", "error NoPacket"), ("open", "a b"))

    def test_nodes_in_the_order_in_which_they_stand(self):
        desk = desk_of(triangle())
        self.replies(desk, ("begin b a", "error BadLot"), ("begin a c b", "error BadLot"), ("begin a b c", "ok"))

    def test_numbers(self):
        desk = desk_of(pair())
        for number in range(12):
            self.replies(desk, ("send g a", str(number)))
        self.replies(desk, ("hop 0", "b"), ("hop 10", "b"), ("hop 9", "b"), ("passed 10", "a b"), ("passed 1", "a"), ("hop 12", "error NoPacket"),
                     ("hop 100", "error NoPacket"), ("passed 999", "error NoPacket"), ("fates 999", "error NoPacket"))
        for word in ("hop", "passed", "fates"):
            for number in ("00", "01", "000", "001", "1000", "0000", "10000", "+1", "-1", "-0", "", "a", "1a", "1.0", "1_0", " 1", "1 ",
                           "1 2", "0x1", "one", "1\n", "\n1", "-"):
                self.replies(desk, (f"{word} {number}", NOT_UNDERSTOOD))
            self.replies(desk, (word, NOT_UNDERSTOOD))
        self.replies(desk, ("passed 0", "a b"), ("passed 10", "a b"))

    def test_what_is_not_understood(self):
        desk = desk_of(triangle(), ["rings"])
        self.replies(desk, ("begin a b", "ok"), ("send g a", "0"))
        for line in ("", " ", "begin", "begin ", "begin  c", " begin c", "begin c ", "begin C", "begin abcdefg", "begin -", "begin c -",
                     "begin c 1", "begin c\n", "begin\nc", "begin c,", "Begin c", "begins c", "change", "change a b", "change 1", "change ",
                     "change abcdefg", "put", "put a b", "put back a", "put_back a", "put -", "close ", " close", "close a", "closes", "CLOSE",
                     "undo 1", "undo ", "undo undo", "send", "send g", "send g a b", "send g ", "send g 1", "send  g a", "send G a", "send - a",
                     "send g -", "done ", "done a", "open a", "open ", "next 1", "next ", "cost rings", "cost ", "log", "copy", "round", "changed",
                     "wishes", "help", "hop zero", "close\n", "\nclose", "close\nclose", "0", "-", "ok", "none", "never", "not understood", "error"):
            self.replies(desk, (line, NOT_UNDERSTOOD))
        before = picture(desk)
        for value in any_values() + [["close"], ("close",), {"close": 1}, [["close"]]]:
            self.assertEqual(desk.reply(value), NOT_UNDERSTOOD)
            self.assertEqual(desk.reply(line=value), NOT_UNDERSTOOD)
        self.assertEqual(picture(desk), before)
        self.replies(desk, ("open", "a b"), ("passed 0", "a"), ("undo", "ok"), ("undo", "ok"), ("undo", "error NothingDone"))

    def test_names_of_six_letters(self):
        net = Net({"zzzzzz": ({"aaaaaa": "zzzzzz", "close": "aaaaaa"}, {"aaaaaa": "close", "close": None})})
        desk = desk_of(net)
        self.replies(desk, ("begin aaaaaa close", "ok"), ("send zzzzzz close", "0"), ("change close", "ok"), ("hop 0", "-"),
                     ("passed 0", "close -"), ("open", "aaaaaa close"), ("next", "none"))

    def test_what_makes_no_desk(self):
        text = net_text(pair())
        for value in any_values():
            refusal(self, BadText, 0, Desk, value, None)
        refusal(self, BadText, 3, Desk, text[:text.index("sources")], None)
        refusal(self, BadText, 5, Desk, text[:-1], ["rings"])
        refusal(self, BadText, 1, Desk, text.replace("way", "wey"), ["rings", "rings"])
        for value in any_values() + ["home", ["ring"], ["home", "home"]]:
            if value not in ([], ()):
                refusal(self, BadWishes, ..., Desk, text, value)
        self.assertEqual(Desk(wishes=("home",), text=text).reply(line="cost"), "1")

    def test_desks_are_objects(self):
        desk, wishes = desk_of(pair()), ["rings"]
        for call in (iter, list, tuple, lambda one: "a" in one):
            with self.assertRaises(TypeError):
                call(desk)
        for value in any_values() + [net_text(pair()), pair(), Live(pair(), [])]:
            self.assertIs(desk == value, False)
            self.assertIs(value == desk, False)
        other = desk_of(pair(), wishes)
        wishes.clear()
        self.replies(other, ("begin b", "error Unsafe"))
        self.replies(desk, ("begin b", "ok"))

    def test_two_desks_of_one_text(self):
        first, second = desk_of(pair()), desk_of(pair())
        self.replies(first, ("begin a", "ok"), ("change a", "ok"))
        self.replies(second, ("open", "-"), ("begin b", "ok"))
        self.replies(first, ("open", "a"))


class AgainstLiveTest(unittest.TestCase):
    def wanted(self, live, wishes, line):
        """The answer to a line, told by a live net."""
        def words(nodes):
            return " ".join("-" if node is None else node for node in nodes) or "-"

        name, number = "[a-z]{1,6}", "(0|[1-9][0-9]{0,2})"
        forms = [f"begin( {name})+", f"(change|put) {name}", f"send {name} {name}", f"(hop|passed|fates) {number}",
                 "close|undo|done|open|next|cost"]
        if not any(re.fullmatch(form, line) for form in forms):
            return NOT_UNDERSTOOD
        word, *rest = line.split(" ")
        try:
            if word == "begin":
                live.begin(tuple(rest))
            elif word in ("change", "put"):
                {"change": live.change, "put": live.put_back}[word](rest[0])
            elif word in ("close", "undo"):
                {"close": live.close, "undo": live.undo}[word]()
            elif word == "send":
                return str(live.send(*rest))
            elif word == "hop":
                return words([live.hop(int(rest[0]))])
            elif word == "passed":
                return words(live.passed(int(rest[0])))
            elif word == "fates":
                return words(live.fates(int(rest[0])))
            elif word in ("done", "open"):
                return words(live.done if word == "done" else live.round)
            elif word == "next":
                return "; ".join(words(lot) for lot in live.next_rounds()) or "none"
            else:
                plans = Plain(live.net).plans(wishes)
                return str(min(len(plan) for plan in plans)) if plans else "never"
        except WayError as error:
            return "error " + type(error).__name__
        return "ok"

    def line(self, chance, net):
        node = chance.choice([*net.nodes, *net.nodes, *net.goals, "z"])
        lot = " ".join(node for node in net.changing if chance.random() < 0.4)
        line = chance.choice((
            f"begin {lot}", f"begin {lot}", f"begin {lot[::-1]}", f"change {node}", f"change {node}", f"put {node}", f"send {chance.choice(net.goals)} {node}",
            f"hop {chance.randint(0, 3)}", f"hop {chance.randint(0, 3)}", f"passed {chance.randint(0, 3)}", f"fates {chance.randint(0, 3)}",
            "close", "undo", "done", "open", "next", "cost"))
        if chance.random() < 0.05:
            at = chance.randint(0, len(line))
            line = line[:at] + chance.choice((" ", "0", "A", "z", "-")) + line[at:]
        return line

    def test_line_by_line(self):
        chance, seen = random.Random(1), set()
        for _ in range(80):
            net, wishes = random_net(chance, 4), random_wishes(chance)
            desk, live = Desk(net_text(net), wishes), Live(net, wishes)
            for _ in range(45):
                line = self.line(chance, net)
                wanted = self.wanted(live, wishes, line)
                self.assertEqual(desk.reply(line), wanted, line)
                seen.add(wanted)
        self.assertTrue({f"error {name}" for name in (
            "BadLot", "HalfDone", "NoNode", "NoPacket", "NoRound", "NotSo", "NothingDone", "RoundOpen", "Unsafe")} <= seen, seen)
        self.assertTrue({"ok", "-", "none", "never", NOT_UNDERSTOOD, "goal", "lost", "0", "1", "2"} <= seen)


if __name__ == "__main__":
    unittest.main()
