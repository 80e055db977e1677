import random
import unittest

import plain_texts
from plain import random_net
from plain_plans import random_plan
from roundways.errors import BadNet, BadPlan, BadText
from roundways.nets import Net
from roundways.texts import net_text, plan_text, read_net, read_plan
from values import any_values, chain, crossed, double, losing, other_net, pair, picture, refusal, still, triangle

LINES = ["goal g", "way a b g", "way b g a", "way c - b", "sources a", "posts b"]
TWO = ["goal g", "way a b g", "way b g -", "goal h", "way a b b", "way b h a", "sources a b", "posts b a"]


def text_of(lines):
    return "".join(line + "\n" for line in lines)


class NetTextsTest(unittest.TestCase):
    def read(self, lines):
        return read_net(text_of(lines))

    def refused(self, wanted, lines):
        text = lines if isinstance(lines, str) else text_of(lines)
        refusal(self, BadText, wanted, read_net, text)
        refusal(self, BadText, wanted, read_net, text=text)
        self.assertEqual(plain_texts.read(text), wanted)

    def test_written_and_read(self):
        for net, lines in (
                (pair(), ["goal g", "way a b g", "way b g a", "sources -", "posts -"]),
                (triangle(), ["goal g", "way a b c", "way b c g", "way c g b", "sources a", "posts b"]),
                (losing(), ["goal g", "way a b b", "way b g c", "way c - g", "sources a", "posts -"]),
                (double(), ["goal g", "way a b c", "way b c c", "way c g -", "way d a a", "goal h", "way a d d", "way b h a",
                            "way c b h", "way d - -", "sources a d", "posts c a"]),
                (other_net(), ["goal z", "way y z -", "sources -", "posts -"])):
            self.assertEqual(net_text(net), text_of(lines))
            self.assertEqual(net_text(net=net), text_of(lines))
            self.assertEqual(self.read(lines), net)
            self.assertIs(type(self.read(lines)), Net)

    def test_what_is_read(self):
        net = self.read(TWO)
        self.assertEqual(net.tables, {"g": ({"a": "b", "b": "g"}, {"a": "g", "b": None}), "h": ({"a": "b", "b": "h"}, {"a": "b", "b": "a"})})
        self.assertEqual((net.sources, net.posts), (("a", "b"), ("b", "a")))
        self.assertEqual(net_text(net), text_of(TWO))
        self.assertEqual(net_text(self.read(LINES)), text_of(LINES))

    def test_names_of_six_letters_and_six_nodes(self):
        net = Net({"zzzzzz": ({"aaaaaa": "zzzzzz", "b": "aaaaaa"}, {"aaaaaa": "b", "b": None})}, ["b"])
        self.assertEqual(read_net(net_text(net)), net)
        self.assertEqual(read_net(net_text(chain())), chain())
        self.assertEqual(net_text(chain()).count("\n"), 9)

    def test_words_that_are_names(self):
        net = Net({"goal": ({"posts": "way", "way": "goal"}, {"posts": "goal", "way": "posts"})}, ["way"], ["posts", "way"])
        self.assertEqual(net_text(net), "goal goal\nway posts way goal\nway way goal posts\nsources way\nposts posts way\n")
        self.assertEqual(read_net(net_text(net)), net)

    def test_lines_left_out(self):
        for at, wanted in ((0, 0), (1, 3), (2, 4), (4, 4), (5, 5)):
            self.refused(wanted, LINES[:at] + LINES[at + 1:])
        # Nothing leads to c: without it, too, there is a net.
        self.assertEqual(self.read(LINES[:3] + LINES[4:]).nodes, ("a", "b"))
        # The node that is left out is not known for the second goal, or not told there.
        wanted = {0: 0, 1: 3, 2: 4, 3: 3, 4: 4, 5: 5, 6: 6, 7: 7}
        for at in range(len(TWO)):
            self.refused(wanted[at], TWO[:at] + TWO[at + 1:])
        for many in range(len(TWO)):
            self.refused(many, TWO[:many])
        for many in range(len(LINES)):
            self.refused(many, LINES[:many])

    def test_lines_that_stand_twice(self):
        for lines in (LINES, TWO):
            for at in range(len(lines)):
                self.refused(at + 1, lines[:at + 1] + lines[at:])

    def test_lines_that_are_exchanged(self):
        for lines in (LINES, TWO):
            for at in range(len(lines) - 1):
                text = text_of([*lines[:at], lines[at + 1], lines[at], *lines[at + 2:]])
                with self.assertRaises(BadText) as caught:
                    read_net(text)
                self.assertEqual(caught.exception.line, plain_texts.read(text))
                self.assertIn(caught.exception.line, (at, at + 1))

    def test_lines_that_are_put_in(self):
        for lines in (LINES, TWO):
            for at in range(len(lines) + 1):
                for more in ("", " ", "goal", "goal ", "way a b g ", "# a", "round a", "Goal g", "goal z z", "way z z", "-", "sources",
                             "posts", "sources -  ", "way a b g g"):
                    self.refused(at, [*lines[:at], more, *lines[at:]])

    def test_the_last_line_feed(self):
        for lines in (LINES, TWO):
            self.refused(len(lines), text_of(lines)[:-1])
            self.refused(len(lines), text_of(lines) + "\n")
            self.refused(len(lines), text_of(lines) + "a")
            self.refused(len(lines) - 1, text_of(lines)[:-2])
            self.refused(0, "\n" + text_of(lines))
            for many in range(1, len(lines)):
                self.refused(many, text_of(lines[:many])[:-1])
                self.refused(many, text_of(lines[:many]) + "way")

    def test_no_texts(self):
        for value in any_values() + [text_of(LINES).split("\n"), (text_of(LINES),), None]:
            if not isinstance(value, str):
                refusal(self, BadText, 0, read_net, value)
        for text in ("", "\n", " ", "\n\n", "goal", "g"):
            self.refused(0, text)
        self.refused(1, "goal g")
        self.refused(1, "goal g\n")

    def test_blanks(self):
        for at, line in enumerate(LINES):
            for wrong in (" " + line, line + " ", line.replace(" ", "  ", 1), line.replace(" ", "", 1), ""):
                self.refused(at, [*LINES[:at], wrong, *LINES[at + 1:]])

    def test_signs_that_are_no_names(self):
        for name in ("A", "1", "a1", "abcdefg", "aa_", "-", "--", "a-", "", "a.b", "aB"):
            self.refused(0, [f"goal {name}", *LINES[1:]])
            self.refused(1, ["goal g", f"way {name} b g", *LINES[2:]])
            if name != "-":
                self.refused(1, ["goal g", f"way a {name} g", *LINES[2:]])
                self.refused(1, ["goal g", f"way a b {name}", *LINES[2:]])
                self.refused(4, [*LINES[:4], f"sources {name}", LINES[5]])
                self.refused(5, [*LINES[:5], f"posts {name}"])
            self.refused(4, [*LINES[:4], f"sources a {name}", LINES[5]])
            self.refused(5, [*LINES[:5], f"posts a {name}"])

    def test_goals(self):
        third = ["goal z", "way a b z", "way b z a"]
        self.refused(6, TWO[:6] + third + TWO[6:])
        self.refused(6, TWO[:6] + ["goal a"] + TWO[6:])
        self.refused(3, TWO[:3] + ["goal f"] + TWO[4:])
        self.refused(3, TWO[:3] + ["goal g"] + TWO[4:])
        self.refused(3, TWO[:3] + ["goal b"] + TWO[4:])
        self.refused(1, ["goal g", "goal h", *LINES[1:]])
        self.refused(1, ["goal g", "sources -", "posts -"])
        self.refused(1, ["goal g", "posts -"])
        self.refused(4, TWO[:4] + TWO[6:])
        self.refused(5, TWO[:5] + TWO[6:])
        self.refused(5, TWO[:5] + ["goal z"] + TWO[6:])
        self.refused(5, LINES[:5] + ["goal z"])
        self.refused(5, LINES[:4] + ["goal z", *LINES[4:]])

    def test_nodes(self):
        self.refused(1, ["goal g", "way g b g", *LINES[2:]])
        self.refused(2, ["goal g", "way a b g", "way g b a", *LINES[3:]])
        self.refused(2, ["goal g", "way b g a", "way a b g", *LINES[3:]])
        self.refused(2, ["goal g", "way a b g", "way a b g", *LINES[3:]])
        six = [f"way {node} z z" for node in "abcdef"]
        self.assertEqual(self.read(["goal z", *six, "sources -", "posts -"]).nodes, tuple("abcdef"))
        self.refused(7, ["goal z", *six, "way g z z", "sources -", "posts -"])
        self.refused(4, TWO[:4] + ["way b h a", "way a b b"] + TWO[6:])
        self.refused(4, TWO[:4] + ["way c h h"] + TWO[5:])
        self.refused(5, TWO[:5] + ["way a b b"] + TWO[6:])
        self.refused(5, TWO[:5] + ["way c h h"] + TWO[6:])
        self.refused(6, TWO[:6] + ["way c h h"] + TWO[6:])
        self.refused(5, LINES[:5] + ["way d g g", LINES[5]])
        self.refused(6, LINES + ["way d g g"])

    def test_sources_and_posts(self):
        for names in ("-", "a", "b", "c", "a b", "a c", "b c", "a b c"):
            self.assertEqual(self.read(LINES[:4] + [f"sources {names}", "posts -"]).sources, tuple(names.replace("-", "").split()))
        for names in ("b a", "a a", "d", "a d", "g", "- a", "a -", "- -", "c b a", "a b c d", "a c b"):
            self.refused(4, LINES[:4] + [f"sources {names}", "posts -"])
        for names in ("-", "a", "c", "a b", "b a", "c a"):
            self.assertEqual(self.read(LINES[:5] + [f"posts {names}"]).posts, tuple(names.replace("-", "").split()))
        for names in ("a a", "d", "a d", "g", "- a", "a -", "- -", "a b c", "c b a"):
            self.refused(5, LINES[:5] + [f"posts {names}"])
        self.refused(4, LINES[:4] + ["posts -", "sources -"])
        self.refused(4, LINES[:4] + ["posts -"])
        self.refused(5, LINES[:5] + ["sources -", "posts -"])
        self.refused(6, LINES + ["posts -"])
        self.refused(6, LINES + ["sources -"])
        self.refused(6, LINES + ["goal z"])

    def test_lines_that_stand_but_make_no_net(self):
        for line in ("way a a g", "way a g a", "way a d g", "way a b z", "way a h h", "way a b goal"):
            self.refused(6, ["goal g", line, *LINES[2:]])
        self.refused(8, [*TWO[:4], "way a g b", *TWO[5:]])
        self.refused(8, [*TWO[:1], "way a h b", *TWO[2:]])
        self.refused(6, text_of(["goal g", "way a a g", *LINES[2:]])[:-1])
        self.refused(5, ["goal g", "way a a g", *LINES[2:5]])
        # What cannot stand is told first.
        self.refused(5, ["goal g", "way a a g", *LINES[2:5], "posts z"])

    def test_against_plain_words(self):
        chance, found = random.Random(1), []
        for _ in range(300):
            net = random_net(chance)
            text = net_text(net)
            self.assertEqual(text, plain_texts.written(net))
            self.assertEqual(read_net(text), net)
            lines = text.split("\n")[:-1]
            for _ in range(8):
                other, at, to = list(lines), chance.randrange(len(lines)), chance.randrange(len(lines))
                words = other[at].split(" ")
                word = chance.randrange(len(words))
                chance.choice((
                    lambda: other.pop(at), lambda: other.insert(to, other[at]), lambda: other.insert(to, other.pop(at)),
                    lambda: words.__setitem__(word, chance.choice([*net.nodes, *net.goals, "-", "z", "", "goal", "way", "posts", "zzzzzzz"])),
                    lambda: words.insert(word, chance.choice([*net.nodes, "-", ""])), lambda: words.pop(word),
                ))()
                if len(other) == len(lines):
                    other[at] = " ".join(words)
                changed = "\n".join(other) + chance.choice(("\n", "\n", "\n", "", "\n\n"))
                wanted = plain_texts.read(changed)
                if isinstance(wanted, Net):
                    self.assertEqual(read_net(changed), wanted)
                    self.assertEqual(net_text(wanted), changed)
                else:
                    refusal(self, BadText, wanted, read_net, changed)
                found.append(wanted if isinstance(wanted, int) else "net")
        self.assertGreater(found.count("net"), 50)
        self.assertGreater(len(set(found)), 12)

    def test_no_nets(self):
        for value in any_values() + [pair().tables, net_text(pair())]:
            if not isinstance(value, Net):
                refusal(self, BadNet, "net", net_text, value)
                refusal(self, BadNet, "net", plan_text, value, None)
                refusal(self, BadNet, "net", read_plan, value, None)


class PlanTextsTest(unittest.TestCase):
    def refused(self, wanted, text, net=None):
        refusal(self, BadText, wanted, read_plan, net or triangle(), text)
        refusal(self, BadText, wanted, read_plan, text=text, net=net or triangle())
        self.assertEqual(plain_texts.read_plan(net or triangle(), text), wanted)

    def test_written_and_read(self):
        for plan, text in (([], ""), ([("a",)], "round a\n"), ([("b", "c"), ("a",)], "round b c\nround a\n"),
                           ([("a", "b", "c")], "round a b c\n"), ([("c",), ("b",), ("a",)], "round c\nround b\nround a\n")):
            self.assertEqual(plan_text(triangle(), plan), text)
            self.assertEqual(plan_text(plan=tuple(plan), net=triangle()), text)
            self.assertEqual(picture(read_plan(triangle(), text)), picture(plan))

    def test_a_plan_that_is_read_is_new(self):
        first = read_plan(triangle(), "round a\nround b\n")
        first.append(("c",))
        self.assertEqual(read_plan(triangle(), "round a\nround b\n"), [("a",), ("b",)])

    def test_later_changes_of_what_was_passed(self):
        plan, tables = [("b",), ("c",)], triangle().tables
        net = Net(tables, ["a"])
        texts = (plan_text(net, plan), net_text(net))
        plan.append(("a",))
        tables["g"][0]["a"] = None
        net.tables["g"][1]["a"] = "g"
        self.assertEqual((plan_text(net, plan[:2]), net_text(net)), texts)
        self.assertEqual(plan_text(net, plan), "round b\nround c\nround a\n")
        self.assertEqual(net_text(net.turned()), plain_texts.written(net.turned()))
        self.assertEqual(net_text(net.with_way("g", "a", False, None)), texts[1].replace("way a b c", "way a - c"))

    def test_the_empty_text_and_no_text(self):
        self.assertEqual(read_plan(triangle(), ""), [])
        self.assertEqual(read_plan(still(), ""), [])
        for value in any_values() + [["round a"], ("round a\n",)]:
            if not isinstance(value, str):
                refusal(self, BadText, 0, read_plan, triangle(), value)

    def test_lines_that_are_none_of_a_round(self):
        for line in ("", " ", "round", "round ", " round a", "round a ", "round  a", "round a  b", "Round a", "rounds a", "a", "round -",
                     "round a -", "rounda", "round A", "goal g", "round a,b", "round aaaaaaa"):
            self.refused(0, line + "\n")
            self.refused(1, "round b\n" + line + "\nround c\n")
            if line:
                self.refused(1, "round b\n" + line)
        self.refused(0, "\n")
        self.refused(1, "round a\n\n")
        self.refused(0, "\nround a\n")

    def test_nodes(self):
        for line in ("round d", "round g", "round b a", "round a a", "round a c b", "round a d", "round a b c d"):
            self.refused(0, line + "\n")
        for line in ("round a", "round a b", "round a c"):
            self.refused(1, "round a\n" + line + "\n")
        self.refused(2, "round a\nround b\nround b c\n")
        self.refused(0, "round d\n", double())
        self.refused(1, "round a\nround c d\n", double())
        self.refused(0, "round a\n", still())

    def test_the_last_line_feed(self):
        self.refused(1, "round a")
        self.refused(2, "round a\nround b")
        self.refused(1, "round a\nround a")
        self.refused(3, "round a\nround b\nround c")

    def test_plans(self):
        for value in any_values() + ["a", {"a": 1}]:
            if not isinstance(value, (list, tuple)):
                refusal(self, BadPlan, None, plan_text, triangle(), value)
            refusal(self, BadPlan, 0, plan_text, triangle(), [value])
            refusal(self, BadPlan, 1, plan_text, triangle(), [("a",), value])
        for plan, at in (([()], 0), ([("b", "a")], 0), ([["a"]], 0), ([("a",), ("a",)], 1), ([("d",)], 0), ([("a",), ("b",), ("a", "c")], 2)):
            refusal(self, BadPlan, at, plan_text, triangle(), plan)

    def test_against_plain_words(self):
        chance, found = random.Random(2), []
        for _ in range(300):
            net = random_net(chance)
            plan = random_plan(chance, net)
            text = plan_text(net, plan)
            self.assertEqual(text, "".join("round " + " ".join(lot) + "\n" for lot in plan))
            self.assertEqual(read_plan(net, text), plan)
            for _ in range(4):
                words = text.replace("\n", " \n ").split(" ") if text else [""]
                at = chance.randrange(len(words))
                words[at] = chance.choice([*net.nodes, *net.goals, "round", "\n", "", "-", "z"])
                changed = " ".join(words).replace(" \n ", "\n").replace(" \n", "\n")
                wanted = plain_texts.read_plan(net, changed)
                if isinstance(wanted, list):
                    self.assertEqual(read_plan(net, changed), wanted)
                    self.assertEqual(plan_text(net, wanted), changed)
                else:
                    refusal(self, BadText, wanted, read_plan, net, changed)
                found.append(wanted if isinstance(wanted, int) else "plan")
        self.assertGreater(found.count("plan"), 50)
        self.assertTrue({0, 1, 2, 3} <= set(found), set(found))

    def test_two_goals(self):
        self.assertEqual(read_plan(crossed(), "round b\nround a\n"), [("b",), ("a",)])
        self.assertEqual(plan_text(double(), [("b",), ("a", "c")]), "round b\nround a c\n")


if __name__ == "__main__":
    unittest.main()
