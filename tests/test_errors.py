import unittest

from roundways import errors
from roundways.mixtures import ways
from roundways.nets import Net
from values import any_values, other_net, pair

WITH_ATTRIBUTE = {
    "BadNet": "part", "NoGoal": "goal", "NoNode": "node", "BadLot": "part", "BadPlan": "at", "BadNumber": "number",
    "BadSights": "at", "Unsafe": "wish", "NotSo": "node", "NoPacket": "packet", "BadJournal": "at", "BadText": "line",
}
WITH_MESSAGE = ["BadPlace", "BadWish", "BadWishes", "RoundOpen", "NoRound", "HalfDone", "NothingDone"]


class ErrorsTest(unittest.TestCase):
    def test_there_are_nineteen_directly_below_the_base(self):
        self.assertEqual(errors.WayError.__bases__, (ValueError,))
        names = list(WITH_ATTRIBUTE) + WITH_MESSAGE
        self.assertEqual(len(names), 19)
        for name in names:
            self.assertEqual(getattr(errors, name).__bases__, (errors.WayError,), name)
            self.assertEqual(getattr(errors, name).__name__, name)

    def test_attributes_by_position_and_by_name(self):
        for name, attribute in WITH_ATTRIBUTE.items():
            for value in any_values():
                for error in (getattr(errors, name)(value), getattr(errors, name)(**{attribute: value})):
                    self.assertEqual(getattr(error, attribute), value, name)
                    self.assertIs(type(getattr(error, attribute)), type(value), name)

    def test_attributes_keep_true_apart_from_one(self):
        for value in (True, False):
            self.assertIs(errors.NoNode(value).node, value)
            self.assertIs(errors.NoGoal([value]).goal[0], value)
        self.assertIsNot(errors.NoPacket(1).packet, True)

    def test_objects_of_the_package_stay_themselves(self):
        net = other_net()
        self.assertIs(errors.NoNode(net).node, net)
        self.assertIs(errors.NoNode([net]).node[0], net)

    def test_attributes_are_copies_at_every_depth(self):
        for name, attribute in WITH_ATTRIBUTE.items():
            value = [{"a": [1]}, ([2],)]
            error = getattr(errors, name)(value)
            value[0]["a"].append(3)
            value[1][0].append(3)
            value.append(3)
            self.assertEqual(getattr(error, attribute), [{"a": [1]}, ([2],)], name)

    def test_what_a_call_refused_is_kept_as_it_was(self):
        value = [["a"]]
        with self.assertRaises(errors.NoGoal) as caught:
            ways(pair(), (), (), value)
        value[0].append("b")
        self.assertEqual(caught.exception.goal, [["a"]])

    def test_the_others_have_a_message(self):
        for name in WITH_MESSAGE:
            self.assertEqual(str(getattr(errors, name)("because")), "because")
        with self.assertRaises(errors.BadPlace) as caught:
            pair().with_way("g", "a", True, "a")
        self.assertNotEqual(str(caught.exception), "")

    def test_each_can_be_shown(self):
        for name in WITH_ATTRIBUTE:
            for value in any_values():
                self.assertNotEqual(str(getattr(errors, name)(value)), "")

    def test_each_is_caught_by_its_bases(self):
        for name in list(WITH_ATTRIBUTE) + WITH_MESSAGE:
            for base in (errors.WayError, ValueError):
                with self.assertRaises(base):
                    raise getattr(errors, name)("a")

    def test_the_attribute_tells_the_part(self):
        with self.assertRaises(errors.WayError) as caught:
            Net(None)
        self.assertEqual(caught.exception.part, "tables")


if __name__ == "__main__":
    unittest.main()
