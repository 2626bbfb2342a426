"""[15], [16], [17], [2]: functions, their refusals, what they draw, and their values."""

import copy
import itertools
import unittest

from callbinds import errors
from callbinds.calls import call_of, laid
from callbinds.defaults import Anew, Once, Sum, Told
from callbinds.errors import NoDefault
from callbinds.fitting import misfits
from callbinds.forms import Form
from callbinds.functions import Function
from callbinds.parameters import Bag, Both, Seat, Tag, Tail
from callbinds.wells import Well
from helper import CLASSES, call, form, letters, small_forms, small_names

GREAT = 10 ** 60 - 1


def function(text, *defaults):
    return Function(form(text), list(defaults), Well())


class Made(unittest.TestCase):
    def check_refused(self, text, defaults, number):
        well = Well(5)
        for kind in [NoDefault, errors.CallError, ValueError]:
            with self.assertRaises(kind) as taken:
                Function(form(text), defaults, well)
            self.assertIs(type(taken.exception), NoDefault)
            self.assertEqual(taken.exception.number, number)
        self.assertEqual(well.ahead(), 5)

    def test_made(self):
        for text, defaults in [("", []), ("a! b c.. d: e::", []), ("a!?", [Told(1)]), ("a? b?", [Once(), Anew()]),
                               ("a! b? c.. d:? e::", [Sum(0, 1, 2), Sum(1, 3, 4)]), ("c.. e::", [])]:
            made = form(text)
            self.assertEqual(Function(made, defaults, Well()).form().told(), made.told())
            self.assertIs(type(Function(made, defaults, Well()).form()), Form)

    def test_fewer(self):
        self.check_refused("a!?", [], 0)
        self.check_refused("a! b?", [], 1)
        self.check_refused("a! b? c.. d: e:? f::", [Once()], 4)
        self.check_refused("a!? b! c? d:?", [Once()], 2)
        self.check_refused("a!? b! c? d:?", [Once(), Told(2)], 3)
        self.check_refused("c.. d: e:? f:: -x", [], 2)

    def test_more(self):
        self.check_refused("", [Once()], 0)
        self.check_refused("c.. e::", [Once()], 2)
        self.check_refused("a! b", [Told(1)], 2)
        self.check_refused("a!? b c.. d:? e:: -x -y", [Once(), Once(), Anew()], 5)
        self.check_refused("a!?", [Once(), Once(), Once()], 1)

    def test_a_sum_of_no_thing_ahead(self):
        text = "a! b? c.. d:? e: f:? g:: -x"
        for at in [1, 2, 3, 4, 5, 6, 7, -1, -7, 24, GREAT, -GREAT]:
            self.check_refused(text, [Sum(at, 1, 0), Once(), Once()], 1)
        for at in [3, 4, 5, 6, 7, 2, -1, -4, -6]:
            self.check_refused(text, [Once(), Sum(at, 1, 0), Once()], 3)
        for at in [5, 6, 2, 7, -1, -2, -3, 100]:
            self.check_refused(text, [Once(), Once(), Sum(at, 1, 0)], 5)
        for first, second, third in itertools.product([0], [0, 1], [0, 1, 3, 4]):
            Function(form(text), [Sum(first, 1, 0), Sum(second, 1, 0), Sum(third, 1, 0)], Well())

    def test_a_sum_at_the_first_parameter(self):
        for at in [-1, 0, 1]:
            self.check_refused("a!?", [Sum(at, 1, 0)], 0)

    def test_several_due(self):
        wrong = Sum(9, 1, 0)
        self.check_refused("a? b? c?", [wrong, Once()], 2)
        self.check_refused("a? b?", [wrong, wrong, wrong], 2)
        self.check_refused("a? b? c..", [wrong, Once(), Once()], 3)
        self.check_refused("a? b! c? d?", [Once(), wrong, wrong], 2)
        self.check_refused("a? b! c? d?", [Once(), Sum(1, 0, 0), wrong], 3)

    def test_onces_draw_when_it_is_made(self):
        well = Well(10)
        made = Function(form("a? b! c!? d.. e:? f:? g::"), [Once(), Anew(), Once(), Told(4)], well)
        self.assertEqual(well.ahead(), 12)
        asked = [("named", "f", 0)]
        with self.assertRaises(errors.Lacking):
            made.answer(asked)
        self.assertEqual(made.answer(call(2)), [7, 8, 12, [], 11, 4, []])
        self.assertEqual(made.answer(call(3)), [7, 8, 9, [], 11, 4, []])
        self.assertEqual(well.ahead(), 13)

    def test_onces_in_the_parameters_order(self):
        made = Function(form("a? b? c:? d:?"), [Once(), Once(), Once(), Once()], Well(-2))
        self.assertEqual(made.answer([]), [-2, -1, 0, 1])
        self.assertEqual(made.answer(call(0, "c a")), [41, -1, 40, 1])
        self.assertEqual(made.answer([]), [-2, -1, 0, 1])

    def test_one_default_several_times(self):
        once, anew = Once(), Anew()
        well = Well()
        made = Function(form("a? b? c? d?"), [once, anew, once, anew], well)
        other = Function(form("a? b?"), [once, anew], well)
        self.assertEqual(made.answer([]), [1, 4, 2, 5])
        self.assertEqual(other.answer([]), [3, 6])
        self.assertEqual(made.answer([]), [1, 7, 2, 8])


class Answers(unittest.TestCase):
    def test_handed_on(self):
        made = function("a! b c.. d: e::")
        asked = [("row", [1, 2]), ("book", [("y", 7), ("d", 8)]), ("one", 3), ("named", "x", 9), ("row", [4])]
        self.assertEqual(made.answer(asked), [1, 2, [3, 4], 8, [("y", 7), ("x", 9)]])
        self.assertEqual(made.answer([("one", 5), ("named", "b", 6), ("named", "d", -1)]), [5, 6, [], -1, []])

    def test_labels_in_the_bag(self):
        made = function("a! c.. e::")
        self.assertEqual(made.answer([("one", 1), ("named", "c", 2), ("named", "a", 3), ("named", "e", 4)]),
                         [1, [], [("c", 2), ("a", 3), ("e", 4)]])

    def test_the_form_without_parameters(self):
        self.assertEqual(function("").answer([]), [])
        self.assertEqual(function("-x").answer([("row", []), ("book", [])]), [])

    def test_told(self):
        made = function("a!? b? c:?", Told(10), Told(GREAT), Told(-GREAT))
        self.assertEqual(made.answer([]), [10, GREAT, -GREAT])
        self.assertEqual(made.answer([("one", 0)]), [0, GREAT, -GREAT])
        self.assertEqual(made.answer([("named", "c", 0)]), [10, GREAT, 0])
        self.assertEqual(made.answer([("named", "b", 0), ("one", 5)]), [5, 0, -GREAT])

    def test_a_thing_that_is_nought_is_handed_on(self):
        made = function("a? b:?", Told(3), Anew())
        self.assertEqual(made.answer([("one", 0), ("named", "b", 0)]), [0, 0])

    def test_anews_only_where_they_are_needed(self):
        well = Well(1)
        made = Function(form("a? b? c.. d:? e::"), [Anew(), Anew(), Anew()], well)
        self.assertEqual(well.ahead(), 1)
        self.assertEqual(made.answer([]), [1, 2, [], 3, []])
        self.assertEqual(made.answer(call(1)), [7, 4, [], 5, []])
        self.assertEqual(made.answer(call(3, "d")), [7, 8, [9], 40, []])
        self.assertEqual(well.ahead(), 6)
        self.assertEqual(made.answer(call(0, "b")), [6, 40, [], 7, []])
        self.assertEqual(made.answer(call(0, "d a")), [41, 8, [], 40, []])
        self.assertEqual(well.draw(), 9)
        self.assertEqual(made.answer(call(0, "q")), [10, 11, [], 12, [("q", 40)]])

    def test_a_drawn_well_between(self):
        well = Well(100)
        made = Function(form("a? b?"), [Once(), Anew()], well)
        self.assertEqual([well.draw(), well.draw()], [101, 102])
        self.assertEqual(made.answer([]), [100, 103])

    def test_sums(self):
        made = function("a! b? c:?", Sum(0, 2, -3), Sum(1, -9, 1))
        self.assertEqual(made.answer([("one", 10)]), [10, 17, -152])
        self.assertEqual(made.answer([("row", [10, 5])]), [10, 5, -44])
        self.assertEqual(made.answer([("one", 10), ("named", "b", 0)]), [10, 0, 1])
        self.assertEqual(made.answer([("one", 10), ("named", "c", 0)]), [10, 17, 0])
        self.assertEqual(made.answer([("one", -4), ("named", "c", 8)]), [-4, -11, 8])

    def test_sums_of_defaults(self):
        made = function("a? b? c? d?", Told(3), Sum(0, 2, 1), Sum(1, 2, 1), Sum(2, 9, -5))
        self.assertEqual(made.answer([]), [3, 7, 15, 130])
        self.assertEqual(made.answer([("named", "b", 1)]), [3, 1, 3, 22])
        made = function("a? b? c.. d:?", Once(), Sum(0, 9, 0), Sum(0, -1, 0))
        self.assertEqual(made.answer([]), [1, 9, [], -1])
        well = Well(5)
        made = Function(form("a? b? c?"), [Anew(), Sum(0, 1, 0), Sum(0, 2, 0)], well)
        self.assertEqual([made.answer([]), made.answer([])], [[5, 5, 10], [6, 6, 12]])
        self.assertEqual(well.ahead(), 7)

    def test_sums_over_a_tail(self):
        made = function("a! b.. c: d:? e:?", Sum(0, 1, 1), Sum(2, 1, 1))
        self.assertEqual(made.answer([("row", [1, 2, 3]), ("named", "c", 50)]), [1, [2, 3], 50, 2, 51])

    def test_times_nought_and_below(self):
        for times in range(-9, 10):
            for plus in [0, 4, -4, GREAT, -GREAT]:
                for thing in [0, 3, -3, GREAT, -GREAT]:
                    self.assertEqual(function("a! b?", Sum(0, times, plus)).answer([("one", thing)]),
                                     [thing, times * thing + plus])

    def test_numbers_have_as_many_figures_as_they_need(self):
        made = function("a! b? c? d?", Sum(0, 9, GREAT), Sum(1, 9, GREAT), Sum(2, -9, -GREAT))
        self.assertEqual(made.answer([("one", GREAT)]), [GREAT, 10 * GREAT, 91 * GREAT, -820 * GREAT])

    def test_refused_calls_draw_nothing(self):
        well = Well(3)
        made = Function(form("a? b! c:? d: -x"), [Anew(), Anew()], well)
        for many, names, kind, number in [(2, "d d", errors.Doubled, 1), (4, "d", errors.Over, 2),
                                          (2, "d x", errors.Barred, 1), (2, "a d", errors.Again, 0),
                                          (2, "d q", errors.Strange, 1), (1, "d", errors.Lacking, 1),
                                          (2, "", errors.Lacking, 3), (0, "q x", errors.Strange, 0)]:
            with self.assertRaises(kind) as taken:
                made.answer(call(many, names))
            self.assertIs(type(taken.exception), kind)
            self.assertEqual(taken.exception.number, number)
        self.assertEqual(well.ahead(), 3)
        self.assertEqual(made.answer(call(2, "d")), [7, 8, 3, 40])

    def test_two_functions_with_one_well(self):
        well, made = Well(), form("a? b? c:?")
        one = Function(made, [Once(), Anew(), Sum(1, 1, 0)], well)
        other = Function(made, [Anew(), Once(), Once()], well)
        self.assertEqual(one.answer([]), [1, 4, 4])
        self.assertEqual(other.answer([]), [5, 2, 3])
        self.assertEqual(one.answer([]), [1, 6, 6])
        self.assertEqual(other.answer(call(1)), [7, 2, 3])
        self.assertEqual(well.ahead(), 7)

    def test_small_forms_and_calls(self):
        for made in itertools.islice(small_forms(), 0, None, 3):
            frees = [p for p, told in enumerate(made.told()[0]) if told[-1] is True]
            well = Well(200)
            asked_one = Function(made, [Anew() for p in frees], well)
            for many, names in itertools.product(range(4), small_names()):
                self.check_one(made, asked_one, well, call(many, " ".join(names)))

    def check_one(self, made, asked_one, well, asked):
        found, ahead = misfits(made, asked), well.ahead()
        if found:
            with self.assertRaises(CLASSES[found[0][0]]) as taken:
                asked_one.answer(asked)
            self.assertEqual(taken.exception.number, found[0][1])
            self.assertEqual(well.ahead(), ahead)
            return
        things, pairs = laid(asked)
        by_name, places = dict(pairs), made.places()
        expected, known = [], [told[1] for told in made.told()[0] if told[0] in ("both", "tag")]
        for p, told in enumerate(made.told()[0]):
            if told[0] == "tail":
                expected.append(things[places:])
            elif told[0] == "bag":
                expected.append([pair for pair in pairs if pair[0] not in known])
            elif told[0] != "tag" and p < len(things):
                expected.append(things[p])
            elif told[0] != "seat" and told[1] in by_name:
                expected.append(by_name[told[1]])
            else:
                expected.append(ahead)
                ahead += 1
        self.assertEqual(asked_one.answer(asked), expected)
        self.assertEqual(well.ahead(), ahead)

    def test_great_functions(self):
        names = [letters(k) for k in range(60)]
        made = Form([Both(name, True) for name in names[:24]])
        chain = Function(made, [Told(1)] + [Sum(p, 2, 0) for p in range(23)], Well())
        self.assertEqual(chain.answer([]), [2 ** p for p in range(24)])
        self.assertEqual(chain.answer([("named", names[10], 0)]), [2 ** p for p in range(10)] + [0] * 14)
        made = Form([Seat("a")] * 10 + [Tail("t")] + [Tag(name) for name in names[:12]] + [Bag("b")])
        asked = call_of(list(range(60)), [(name, k) for k, name in enumerate(names)])
        self.assertEqual(Function(made, [], Well()).answer(asked),
                         list(range(10)) + [list(range(10, 60))] + list(range(12))
                         + [[(names[k], k) for k in range(12, 60)]])


class WhatStays(unittest.TestCase):
    def test_told_values_belong_to_the_asker(self):
        made = function("a! c.. d:? e::", Told(6))
        asked = [("row", [1, 2, 3]), ("book", [("y", 4)])]
        first = made.answer(asked)
        kept = copy.deepcopy(first)
        self.assertIs(type(first), list)
        first[1].append(99)
        first[3].clear()
        first.pop(0)
        self.assertEqual(made.answer(asked), kept)
        self.assertEqual(asked, [("row", [1, 2, 3]), ("book", [("y", 4)])])

    def test_the_call_changed_behind(self):
        made = function("c.. e::")
        row, book = [1, 2], [("y", 4)]
        told = made.answer([("row", row), ("book", book)])
        row.append(3)
        book.clear()
        self.assertEqual(told, [[1, 2], [("y", 4)]])

    def test_the_list_of_defaults_changed_behind(self):
        defaults = [Told(1), Once(), Sum(0, 2, 0)]
        made = Function(form("a? b? c?"), defaults, Well(40))
        kept = list(defaults)
        self.assertEqual(made.answer([]), [1, 40, 2])
        self.assertEqual(defaults, kept)
        defaults[0] = Told(9)
        defaults.pop()
        self.assertEqual(made.answer([]), [1, 40, 2])
        defaults.clear()
        self.assertEqual(made.answer([]), [1, 40, 2])

    def test_form_told_anew(self):
        parameters = [Both("a", True)]
        made = Function(Form(parameters), [Told(5)], Well())
        parameters.append(Both("b"))
        made.form().parameters().clear()
        made.form().told()[0].clear()
        self.assertEqual(made.answer([]), [5])
        self.assertEqual(made.form().told(), ([("both", "a", True)], []))

    def test_asked_again(self):
        made = function("a? b? c.. d:?", Told(1), Once(), Sum(1, 3, 0))
        for turn in range(3):
            self.assertEqual(made.answer(call(1)), [7, 1, [], 3])
            self.assertEqual(made.answer([]), [1, 1, [], 3])


if __name__ == "__main__":
    unittest.main()
