"""[5], [6], [2]: forms, what is refused when one is made, and in which order."""

import itertools
import unittest

from callbinds.errors import BadOrder, CallError, NoName, TooMany, Twice
from callbinds.forms import Form
from callbinds.parameters import Bag, Both, Parameter, Seat, Tag, Tail
from helper import form, letters, parameter

NO_NAMES = ["", "abcdefghi", "A", "a1", "a ", "a\n", "_", "-a", None, 0, 1, True, False, [], ["a"], (), ("a",), {},
            {"a": 1}, {"a"}, b"a", object(), Both("a")]


class WhatIsTold(unittest.TestCase):
    def check(self, made, tuples, bars, places, tail, bag):
        self.assertEqual([one.told() for one in made.parameters()], tuples)
        self.assertTrue(all(isinstance(one, Parameter) for one in made.parameters()))
        self.assertEqual(made.bars(), bars)
        self.assertEqual(made.places(), places)
        self.assertEqual(made.tail(), tail)
        self.assertEqual(made.bag(), bag)
        told = made.told()
        self.assertEqual(told, (tuples, bars))
        self.assertEqual([type(told), type(told[0]), type(told[1])], [tuple, list, list])
        self.assertEqual([type(made.parameters()), type(made.bars())], [list, list])

    def test_the_form_without_any(self):
        for made in [Form([]), Form([], []), Form([], bars=[]), Form([], None), Form([], bars=None)]:
            self.check(made, [], [], 0, None, None)
            self.assertIsNone(made.number_of("a"))

    def test_all_five_sorts(self):
        made = Form([Seat("a"), Both("b", True), Seat("c", True), Both("d"), Tail("e"), Tag("f"), Tag("g", True),
                     Bag("h")], ["k", "i", "j"])
        tuples = [("seat", "a", False), ("both", "b", True), ("seat", "c", True), ("both", "d", False), ("tail", "e"),
                  ("tag", "f", False), ("tag", "g", True), ("bag", "h")]
        self.check(made, tuples, ["k", "i", "j"], 4, 4, 7)
        numbers = {name: made.number_of(name) for name in "abcdefghijkz"}
        self.assertEqual({name: at for name, at in numbers.items() if at is not None}, {"b": 1, "d": 3, "f": 5, "g": 6})

    def test_each_sort_alone(self):
        self.check(form("a!"), [("seat", "a", False)], [], 1, None, None)
        self.check(form("a?"), [("both", "a", True)], [], 1, None, None)
        self.check(form("a.."), [("tail", "a")], [], 0, 0, None)
        self.check(form("a:"), [("tag", "a", False)], [], 0, None, None)
        self.check(form("a::"), [("bag", "a")], [], 0, None, 0)
        self.check(form("-a"), [], ["a"], 0, None, None)
        self.assertEqual([form(text).number_of("a") for text in ["a!", "a", "a..", "a:", "a::", "-a"]],
                         [None, 0, None, 0, None, None])

    def test_parts_left_out(self):
        self.check(form("a.. b::"), [("tail", "a"), ("bag", "b")], [], 0, 0, 1)
        self.check(form("a! b: c::"), [("seat", "a", False), ("tag", "b", False), ("bag", "c")], [], 1, None, 2)
        self.check(form("a b.. c:?"), [("both", "a", False), ("tail", "b"), ("tag", "c", True)], [], 1, 1, None)

    def test_great_forms(self):
        names = [letters(k) for k in range(24)]
        bars = [letters(k) for k in range(100, 160)]
        made = Form([Both(name) for name in names], bars)
        self.check(made, [("both", name, False) for name in names], bars, 24, None, None)
        self.assertEqual([made.number_of(name) for name in names], list(range(24)))
        self.assertEqual([made.number_of(name) for name in bars], [None] * 60)
        made = Form([Seat("a")] * 10 + [Tail("a")] + [Tag(name, True) for name in names[:12]] + [Bag("a")], bars)
        self.assertEqual((made.places(), made.tail(), made.bag()), (10, 10, 23))
        self.assertEqual([made.number_of(name) for name in names[:13]], list(range(11, 23)) + [None])

    def test_parameters_are_handed_on_themselves_or_alike(self):
        given = [Seat("a"), Both("b", True), Tail("c"), Tag("d"), Bag("e")]
        for one, other in zip(Form(given).parameters(), given):
            self.assertIs(type(one), type(other))
            self.assertEqual(one.told(), other.told())

    def test_labels_may_be_like_any_name(self):
        made = form("a! a! a a.. b: a:: -c")
        self.assertEqual((made.number_of("a"), made.number_of("b"), made.number_of("c")), (2, 4, None))
        made = form("x! y.. x: x:: -y -z")
        self.assertEqual((made.number_of("x"), made.number_of("y")), (2, None))
        self.assertEqual(form("z! z! z.. z:: -z").told()[1], ["z"])
        self.assertIsNone(form("z! z! z.. z:: -z").number_of("z"))

    def test_all_is_told_alike_when_asked_again(self):
        made = form("a! b? c.. d: e:: -x -y")
        self.assertEqual(made.told(), made.told())
        self.assertEqual([made.places(), made.tail(), made.bag()], [made.places(), made.tail(), made.bag()])


class WhatStays(unittest.TestCase):
    def test_lists_handed_in(self):
        parameters, bars = [Seat("a"), Both("b"), Tail("c")], ["x", "y"]
        before = list(parameters)
        made = Form(parameters, bars)
        self.assertEqual((parameters, bars), (before, ["x", "y"]))
        parameters.append(Bag("z"))
        parameters[0] = Tag("q")
        bars.clear()
        bars.append("b")
        self.assertEqual(made.told(), ([("seat", "a", False), ("both", "b", False), ("tail", "c")], ["x", "y"]))
        self.assertEqual((made.places(), made.tail(), made.bag(), made.number_of("q")), (2, 2, None, None))

    def test_lists_of_a_refused_form(self):
        parameters, bars = [Bag("a"), Seat("b")], ["x", None]
        before = list(parameters)
        with self.assertRaises(BadOrder):
            Form(parameters, bars)
        self.assertEqual((parameters, bars), (before, ["x", None]))

    def test_told_lists(self):
        made = form("a! b c.. d: e:: -x -y")
        tuples = made.told()[0]
        made.parameters().clear()
        made.bars().append("z")
        made.told()[0].clear()
        made.told()[1].clear()
        self.assertEqual(made.told(), (tuples, ["x", "y"]))
        self.assertEqual([one.told() for one in made.parameters()], tuples)
        self.assertEqual((len(tuples), made.bars(), made.places()), (5, ["x", "y"], 2))

    def test_forms_that_share_parameters(self):
        one = form("a! b? c.. d: e:: -x")
        other = Form(one.parameters(), ["y"])
        less = Form(one.parameters()[1:4])
        self.assertEqual(one.told()[1], ["x"])
        self.assertEqual(other.told(), (one.told()[0], ["y"]))
        self.assertEqual((less.places(), less.tail(), less.bag()), (1, 1, None))
        self.assertEqual((less.number_of("b"), less.number_of("d")), (0, 2))
        self.assertEqual((one.places(), one.tail(), one.bag()), (2, 2, 4))
        self.assertEqual((one.number_of("b"), one.number_of("d")), (1, 3))

    def test_one_parameter_several_times(self):
        seat = Seat("a")
        self.assertEqual(Form([seat, seat, seat]).places(), 3)
        both = Both("b")
        with self.assertRaises(Twice):
            Form([both, both])


class Refused(unittest.TestCase):
    def test_too_many(self):
        bars = [letters(k) for k in range(61)]
        Form([Seat("a")] * 24, bars[:60])
        for parameters, some in [([Seat("a")] * 25, []), ([Seat("a")] * 25, None), ([], bars),
                                 ([Seat("a")] * 24, bars), ([Seat("a")] * 30, bars + ["zz"])]:
            with self.assertRaises(TooMany):
                Form(parameters, some)

    def test_too_many_is_a_call_error(self):
        for kind in [CallError, ValueError]:
            with self.assertRaises(kind):
                Form([Seat("a")] * 25)

    def at(self, words, bars=()):
        with self.assertRaises(BadOrder) as taken:
            Form([parameter(word) for word in words.split()], list(bars))
        return taken.exception.at

    def test_each_pair_in_the_wrong_order(self):
        sorts = [["a!", "b", "a!?", "b?"], ["t.."], ["c:", "c:?"], ["d::"]]
        for (early, firsts), (late, seconds) in itertools.product(enumerate(sorts), repeat=2):
            for first, second in itertools.product(firsts, seconds):
                if early > late:
                    self.assertEqual(self.at(first + " " + second), 1)
                    self.assertEqual(self.at("x! y " + first + " " + second), 3)
                elif early < late:
                    self.assertEqual(form(first + " " + second).told()[0],
                                     [parameter(first).told(), parameter(second).told()])

    def test_a_second_tail_and_a_second_bag(self):
        self.assertEqual(self.at("a.. b.."), 1)
        self.assertEqual(self.at("a.. a.."), 1)
        self.assertEqual(self.at("a b.. c.. d.."), 2)
        self.assertEqual(self.at("a.. b: c.."), 2)
        self.assertEqual(self.at("a:: b::"), 1)
        self.assertEqual(self.at("a b.. c: d:: d::"), 4)

    def test_the_first_that_stands_wrong(self):
        self.assertEqual(self.at("a b: c d! e:: f: g::"), 2)
        self.assertEqual(self.at("a:: b c d"), 1)
        self.assertEqual(self.at("a: b: c.. d"), 2)
        self.assertEqual(self.at("a! b! c! d.. e: f: g! h:: i::"), 6)
        self.assertEqual(self.at("a! " * 22 + "b:: c::"), 23)

    def test_many_tags_and_places_stand_well(self):
        self.assertEqual(form("a! b c! d e.. f: g: h: i::").places(), 4)

    def test_a_bar_that_is_no_name(self):
        for thing in NO_NAMES:
            for bars in [[thing], ["a", thing], [thing, "a"], ["a", "b", thing, "c"]]:
                with self.assertRaises(NoName, msg=bars):
                    Form([], bars)
                with self.assertRaises(NoName, msg=bars):
                    Form([Both("q")], bars=bars)

    def twice(self, text):
        with self.assertRaises(Twice) as taken:
            form(text)
        return taken.exception.name

    def test_twice(self):
        self.assertEqual(self.twice("a a"), "a")
        self.assertEqual(self.twice("a b? a?"), "a")
        self.assertEqual(self.twice("a a:"), "a")
        self.assertEqual(self.twice("a: a:?"), "a")
        self.assertEqual(self.twice("a -a"), "a")
        self.assertEqual(self.twice("a: -a"), "a")
        self.assertEqual(self.twice("-a -b -a"), "a")

    def test_the_first_name_that_came_before(self):
        self.assertEqual(self.twice("a b b a"), "b")
        self.assertEqual(self.twice("a b c: b: a: -c"), "b")
        self.assertEqual(self.twice("a b -b -a"), "b")
        self.assertEqual(self.twice("a b c: c:? -a"), "c")
        self.assertEqual(self.twice("a b -c -c -a"), "c")
        self.assertEqual(self.twice("a! b a! a.. c: a:: -d -e -d -b"), "d")

    def test_each_refusal_is_a_call_error_and_a_value_error(self):
        for text in ["a:: b", "a a", "-a -a"]:
            for kind in [CallError, ValueError]:
                with self.assertRaises(kind):
                    form(text)


class OrderOfRefusals(unittest.TestCase):
    def test_too_many_comes_first(self):
        wrong = [Bag("a"), Both("b"), Both("b")]
        with self.assertRaises(TooMany):
            Form(wrong * 9, [None, "b"])
        with self.assertRaises(TooMany):
            Form(wrong, [None] + ["b"] * 60)

    def test_bad_order_comes_second(self):
        with self.assertRaises(BadOrder) as taken:
            Form([Tag("b"), Tag("b"), Both("b")], [None, "b", "b"])
        self.assertEqual(taken.exception.at, 2)

    def test_no_name_comes_third(self):
        with self.assertRaises(NoName):
            Form([Both("b"), Both("b")], ["b", "b", []])

    def test_twice_comes_last(self):
        with self.assertRaises(Twice) as taken:
            Form([Both("b"), Tag("b")], ["c", "c"])
        self.assertEqual(taken.exception.name, "b")


if __name__ == "__main__":
    unittest.main()
