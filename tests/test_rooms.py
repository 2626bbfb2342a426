"""[21], [2]: how many things by place fit beside told names."""

import itertools
import random
import unittest

from callbinds.fitting import fits
from callbinds.forms import Form
from callbinds.parameters import Bag, Both, Seat, Tag, Tail
from callbinds.rooms import room
from helper import call, chance_form, chance_names, form, letters, small_forms


class Rooms(unittest.TestCase):
    def check(self, text, names, expected):
        made = form(text)
        self.assertEqual(room(made, names.split()), expected)
        self.check_by_calls(made, names.split())

    def check_by_calls(self, made, names):
        told = room(made, names)
        if told is not None:
            self.assertIs(type(told), tuple)
            low, high = told
            self.assertIs(type(low), int)
            self.assertTrue(0 <= low and (high is None or (type(high) is int and low <= high)))
        for many in range(made.places() + 4):
            inside = told is not None and told[0] <= many and (told[1] is None or many <= told[1])
            self.assertIs(fits(made, call(many, " ".join(names))), inside, (made.told(), names, many))

    def test_without_names(self):
        self.check("", "", (0, 0))
        self.check("-x", "", (0, 0))
        self.check("a!? b? e::", "", (0, 2))
        self.check("a! b", "", (2, 2))
        self.check("a! b?", "", (1, 2))
        self.check("a? b!", "", (2, 2))
        self.check("a? b! c!?", "", (2, 3))
        self.check("a..", "", (0, None))
        self.check("a! b c.. d:? e::", "", (2, None))
        self.check("a?", "", (0, 1))

    def test_a_tag_that_is_not_told(self):
        self.check("a t:", "", None)
        self.check("a t:? u:", "t", None)
        self.check("t: u:", "u", None)
        self.check("t:", "t", (0, 0))
        self.check("a! c.. t: u:", "u t", (1, None))

    def test_boths(self):
        self.check("a b", "a", None)
        self.check("a b", "b", (1, 1))
        self.check("a b", "a b", (0, 0))
        self.check("a b", "b a", (0, 0))
        self.check("a? b?", "b", (0, 1))
        self.check("a? b? c?", "c", (0, 2))
        self.check("a? b? c?", "c b", (0, 1))
        self.check("a? b? c?", "b c a", (0, 0))
        self.check("a b c d", "d c", (2, 2))
        self.check("a b? c d", "d c", (1, 2))

    def test_a_both_told_by_name_stops_the_tail(self):
        self.check("a? b? c..", "b", (0, 1))
        self.check("a! b c.. t:", "t b", (1, 1))
        self.check("a! b c.. t:", "t", (2, None))

    def test_seats_behind_a_both_told_by_name(self):
        self.check("a b!", "a", None)
        self.check("a b!?", "a", (0, 0))
        self.check("a! b? c!? d", "b d", (1, 1))
        self.check("a! b? c! d", "b d", None)

    def test_strange_names(self):
        self.check("a?", "q", None)
        self.check("a? e::", "q", (0, 1))
        self.check("c.. e::", "q r s", (0, None))
        self.check("c..", "q", None)
        self.check("", "q", None)

    def test_labels_are_strange_names(self):
        self.check("a!", "a", None)
        self.check("a! e::", "a", (1, 1))
        self.check("a! a e::", "a", (1, 1))
        self.check("a a! e::", "a", None)
        self.check("a! c.. e::", "c a e", (1, None))

    def test_barred_names(self):
        self.check("a? -x", "x", None)
        self.check("a? e:: -x -y", "q y", None)
        self.check("a? e:: -x", "q", (0, 1))

    def test_names_in_any_order(self):
        made = form("a? b c? t: u:? e:: -x")
        for names in itertools.permutations(["c", "t", "u", "q"]):
            self.assertEqual(room(made, list(names)), (2, 2))

    def test_small_forms(self):
        for made in small_forms():
            for many in range(4):
                for names in itertools.combinations("btaxy", many):
                    self.check_by_calls(made, list(names))

    def test_great_forms(self):
        dice = random.Random(21)
        for turn in range(1000):
            made = chance_form(dice)
            names = chance_names(dice, made, False)
            needed = [told[1] for told in made.told()[0] if told[0] == "tag" and not told[2]]
            self.check_by_calls(made, names)
            self.check_by_calls(made, needed + [name for name in names if name not in needed])

    def test_the_bounds(self):
        names = [letters(k) for k in range(60)]
        self.assertEqual(room(Form([Both(name) for name in names[:24]]), names[:24]), (0, 0))
        self.assertEqual(room(Form([Both(name) for name in names[:24]]), names[23:24]), (23, 23))
        self.assertEqual(room(Form([Seat("a", True)] * 23 + [Bag("b")]), names), (0, 23))
        self.assertEqual(room(Form([Seat("a")] * 22 + [Tail("t"), Bag("b")], names), []), (22, None))
        self.assertIsNone(room(Form([Tail("t"), Bag("b")], names), names[59:]))
        self.assertEqual(room(Form([Tag(name) for name in names[:24]], names[24:]), names[:24]), (0, 0))

    def test_what_stays(self):
        made, names = form("a? b t: e:: -x"), ["q", "t", "b"]
        self.assertEqual([room(made, names), room(made, names)], [(0, 1), (0, 1)])
        self.assertEqual(names, ["q", "t", "b"])
        self.assertEqual(made.told(), form("a? b t: e:: -x").told())


if __name__ == "__main__":
    unittest.main()
