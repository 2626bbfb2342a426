"""[4]: the five sorts of parameters."""

import unittest

from callbinds.errors import CallError, NoName
from callbinds.parameters import Bag, Both, Parameter, Seat, Tag, Tail, parameter_of

CLASSES = {"seat": Seat, "both": Both, "tail": Tail, "tag": Tag, "bag": Bag}
OF_ONE_THING = ["seat", "both", "tag"]
NAMES = ["a", "z", "name", "abcdefgh", "seat", "bag"]
NO_NAMES = ["", "abcdefghi", "A", "aB", "a1", "a ", " a", "a_b", "a-b", "a\n", "a\t", "\n", None, 0, 1, -3, True, False,
            [], ["a"], (), ("a",), {}, {"a": 1}, {"a"}, b"a", object(), Seat]


class Parameters(unittest.TestCase):
    def check(self, parameter, word, name, free):
        one_thing = word in OF_ONE_THING
        self.assertEqual(parameter.name, name)
        told = parameter.told()
        self.assertIs(type(told), tuple)
        self.assertEqual(told, (word, name, free) if one_thing else (word, name))
        if one_thing:
            self.assertIs(told[2], free)
        self.assertIs(parameter.free(), free if one_thing else True)
        self.assertIs(parameter.by_place(), word in ["seat", "both"])
        self.assertIs(parameter.by_name(), word in ["both", "tag"])
        self.assertIsInstance(parameter, Parameter)
        for other, kind in CLASSES.items():
            self.assertIs(isinstance(parameter, kind), other == word, (other, word))

    def test_made_by_its_class(self):
        for name in NAMES:
            for word in OF_ONE_THING:
                self.check(CLASSES[word](name), word, name, False)
                for free in [False, True]:
                    self.check(CLASSES[word](name, free), word, name, free)
                    self.check(CLASSES[word](name, free=free), word, name, free)
            self.check(Tail(name), "tail", name, True)
            self.check(Bag(name), "bag", name, True)

    def test_made_of_its_tuple(self):
        for name in NAMES:
            for word in OF_ONE_THING:
                for free in [False, True]:
                    told = (word, name, free)
                    self.check(parameter_of(told), word, name, free)
                    self.check(parameter_of(parameter_of(told).told()), word, name, free)
            for word in ["tail", "bag"]:
                self.check(parameter_of((word, name)), word, name, True)

    def test_none_of_the_five_stands_under_another(self):
        for word, kind in CLASSES.items():
            self.assertTrue(issubclass(kind, Parameter))
            for other, another in CLASSES.items():
                self.assertIs(issubclass(kind, another), word == other)

    def test_no_name_is_refused_by_each_class(self):
        for thing in NO_NAMES:
            for word, kind in CLASSES.items():
                with self.assertRaises(NoName, msg=(word, thing)):
                    kind(thing)
            for word in OF_ONE_THING:
                for free in [False, True]:
                    with self.assertRaises(NoName, msg=(word, thing)):
                        CLASSES[word](thing, free)
                    with self.assertRaises(NoName, msg=(word, thing)):
                        CLASSES[word](thing, free=free)

    def test_no_name_is_refused_by_parameter_of(self):
        for thing in NO_NAMES:
            for told in [("seat", thing, False), ("both", thing, True), ("tail", thing), ("tag", thing, False),
                         ("bag", thing)]:
                with self.assertRaises(NoName, msg=told):
                    parameter_of(told)

    def test_the_refusal_is_a_call_error_and_a_value_error(self):
        for kind in [CallError, ValueError]:
            with self.assertRaises(kind):
                Both("A")
            with self.assertRaises(kind):
                parameter_of(("bag", ""))

    def test_what_is_handed_in_stays_and_all_is_told_alike(self):
        thing = ["a", {"b": 1}]
        with self.assertRaises(NoName):
            Seat(thing)
        self.assertEqual(thing, ["a", {"b": 1}])
        parameter = Tag("a", True)
        self.assertEqual([parameter.told() for asked in range(3)], [("tag", "a", True)] * 3)

    def test_parameters_of_the_same_name_stay_apart(self):
        one, other = Both("a", True), Both("a")
        self.assertIs(one.free(), True)
        self.assertIs(other.free(), False)


if __name__ == "__main__":
    unittest.main()
