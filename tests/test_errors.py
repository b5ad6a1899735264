"""The refusals of point [2] and of the interface."""

import unittest

from roadsettings import errors
from roadsettings.errors import RoadError

NAMES = (
    "NoTable",
    "NoNode",
    "NoPlace",
    "NotBehind",
    "Known",
    "NoSetting",
    "Missing",
    "NoWorld",
    "Busy",
    "AtHome",
    "NoToken",
    "Used",
    "Elsewhere",
    "OutOfTurn",
    "NoWatcher",
    "NoTask",
    "BadRow",
)
REFUSED = (0, -7, 10**30 + 1, "cab", "", None, (), (0, 2, 1), ("a", (1, "b")))


def all_classes():
    return [getattr(errors, name) for name in NAMES]


class Standing(unittest.TestCase):
    def test_road_error_stands_under_value_error(self):
        self.assertEqual(RoadError.__bases__, (ValueError,))

    def test_there_are_seventeen(self):
        self.assertEqual(len(NAMES), 17)
        self.assertEqual(len(set(all_classes())), 17)

    def test_each_stands_straight_under_road_error(self):
        for name, each in zip(NAMES, all_classes()):
            with self.subTest(name):
                self.assertEqual(each.__bases__, (RoadError,))
                self.assertEqual(each.__name__, name)

    def test_none_stands_under_another(self):
        for each in all_classes():
            for other in all_classes():
                if each is not other:
                    self.assertFalse(issubclass(each, other), (each, other))

    def test_a_raised_one_is_taken_by_its_own_class_and_those_above_alone(self):
        for each in all_classes():
            for taken in all_classes() + [RoadError, ValueError]:
                with self.subTest(each=each, taken=taken):
                    due = taken in (each, RoadError, ValueError)
                    self.assertEqual(isinstance(each("cab"), taken), due)
            with self.assertRaises(each):
                raise each("cab")


class What(unittest.TestCase):
    def test_what_is_the_very_thing(self):
        for each in all_classes() + [RoadError]:
            for thing in REFUSED:
                with self.subTest(each=each, thing=thing):
                    self.assertIs(each(thing).what, thing)

    def test_what_is_there_when_it_is_taken(self):
        for each in all_classes():
            path = (3, 1)
            with self.assertRaises(RoadError) as taken:
                raise each(path)
            self.assertIs(taken.exception.what, path)

    def test_two_errors_keep_their_own(self):
        first = errors.NoTable(1)
        second = errors.NoTable(2)
        self.assertEqual((first.what, second.what), (1, 2))

    def test_what_is_refused_stays_as_it_was(self):
        thing = [1, ["a", 2]]
        self.assertIs(errors.BadRow(thing).what, thing)
        self.assertEqual(thing, [1, ["a", 2]])


if __name__ == "__main__":
    unittest.main()
