"""[13], [2]: with how few changes a call comes to one that fits, and such changes."""

import copy
import itertools
import random
import unittest

from callbinds.calls import call_of
from callbinds.errors import NoChange
from callbinds.fitting import fits
from callbinds.forms import Form
from callbinds.mending import mends, nearest
from callbinds.parameters import Bag, Both, Seat, Tag, Tail
from helper import behind, call, chance_form, chance_names, form, letters, small_forms


def reckoned(made, many, names):
    """The least number of changes, by the words in brackets of [13], of what the form tells of itself."""
    parameters, bars = made.told()
    words = [told[0] for told in parameters]
    places = [told for told in parameters if told[0] in ("seat", "both")]
    counts = []
    for wanted in range(max(len(places), many) + 2):
        if wanted > len(places) and "tail" not in words:
            continue
        if any(told[0] == "seat" and not told[2] for told in places[wanted:]):
            continue
        tellable = places[wanted:] + [told for told in parameters if told[0] == "tag"]
        needed = {told[1] for told in tellable if told[0] != "seat" and not told[2]}
        closed = {told[1] for told in places[:wanted] if told[0] == "both"} | set(bars)
        if "bag" in words:
            allowed = set(names) | needed
        else:
            allowed = {told[1] for told in tellable if told[0] != "seat"}
        kept = set(names) & (allowed - closed)
        counts.append(abs(wanted - many) + len(names) - len(kept) + len(needed - kept))
    return min(counts)


class Mends(unittest.TestCase):
    def check(self, text, many, names, expected):
        """Expected is a number, or the list of changes in any order where there is one such list alone."""
        made, asked = form(text), call(many, names)
        told = mends(made, asked)
        self.check_mends(made, asked, told)
        self.assertEqual(reckoned(made, many, names.split()), len(told))
        if isinstance(expected, int):
            self.assertEqual(len(told), expected)
        else:
            self.assertEqual(sorted(told), sorted(expected))

    def check_mends(self, made, asked, told):
        self.assertIs(type(told), list)
        number = nearest(made, asked)
        self.assertIs(type(number), int)
        self.assertEqual(len(told), number)
        self.assertIs(number == 0, fits(made, asked))
        for change in told:
            self.assertIs(type(change), tuple)
            self.assertIn((change[0], len(change)), [("less", 1), ("more", 1), ("out", 2), ("in", 2)])
        self.assertIs(fits(made, behind(asked, told)), True, (made.told(), asked, told))

    def test_calls_that_fit(self):
        for text, many, names in [("", 0, ""), ("-x", 0, ""), ("a! b c.. d: e:: -x", 2, "d"), ("a b", 1, "b"),
                                  ("a! b c.. d: e:: -x", 5, "d y z"), ("a!? b? d:?", 0, ""), ("c..", 60, "")]:
            self.check(text, many, names, [])

    def test_the_form_without_parameters(self):
        self.check("", 3, "", [("less",)] * 3)
        self.check("", 0, "a b a", [("out", "a"), ("out", "a"), ("out", "b")])
        self.check("", 2, "a", [("less",), ("less",), ("out", "a")])
        self.check("-a", 0, "a a", [("out", "a"), ("out", "a")])

    def test_too_many_by_place(self):
        self.check("a! b?", 4, "", [("less",), ("less",)])
        self.check("a! b? c..", 4, "", [])
        self.check("t:", 1, "t", [("less",)])
        self.check("a! b t:? e::", 5, "z", [("less",)] * 3)

    def test_too_few_by_place(self):
        self.check("a! b!", 0, "", [("more",), ("more",)])
        self.check("a!? b!", 0, "", [("more",), ("more",)])
        self.check("a!? b! c!?", 1, "", [("more",)])
        self.check("a! c..", 0, "", [("more",)])
        self.check("a? b! c..", 1, "", [("more",)])
        self.check("a!? b?", 0, "", [])

    def test_names_that_come_again(self):
        self.check("a:", 0, "a a a", [("out", "a"), ("out", "a")])
        self.check("e::", 0, "y y z", [("out", "y")])
        self.check("a", 1, "a a", 2)
        self.check("e:: -y", 0, "y y z z", [("out", "y"), ("out", "y"), ("out", "z")])

    def test_barred_names(self):
        self.check("e:: -x", 0, "x", [("out", "x")])
        self.check("a -x -y", 0, "y a x", [("out", "x"), ("out", "y")])

    def test_strange_names(self):
        self.check("a! c..", 2, "a q", [("out", "a"), ("out", "q")])
        self.check("a! c.. e::", 2, "a q", [])
        self.check("t:", 0, "t q", [("out", "q")])

    def test_names_of_boths_that_have_a_thing_by_place(self):
        self.check("a! b", 2, "b", 1)
        self.check("a! b c!", 3, "b", [("out", "b")])
        self.check("a? b? c?", 3, "a b", [("out", "a"), ("out", "b")])
        self.check("a? b? c? d..", 3, "b c a", 3)
        self.check("a b c.. e::", 4, "a", [("out", "a")])

    def test_needed_names(self):
        self.check("t: u:? v:", 0, "", [("in", "t"), ("in", "v")])
        self.check("t: u:? v:", 0, "v u", [("in", "t")])
        self.check("a b", 0, "b", 1)
        self.check("a b!? c", 0, "", 2)

    def test_better_by_place_than_by_name(self):
        self.check("a? b? c?", 1, "a b c", [("less",)])
        self.check("a b c t:", 3, "b c t", [("less",), ("less",)])
        self.check("a b c d e", 5, "e", 1)
        self.check("a? b c d", 1, "a b c d", [("less",)])
        self.check("a b! c", 1, "c", [("more",)])
        self.check("a b! c!", 1, "", [("more",), ("more",)])
        self.check("a? b? c!", 0, "a b", [("more",)] * 3 + [("out", "a"), ("out", "b")])

    def test_names_better_than_by_place(self):
        self.check("a!? b!? c!? d", 0, "", [("in", "d")])
        self.check("a! b c d", 4, "b", [("out", "b")])
        self.check("a? b? c? d? e", 0, "", [("in", "e")])
        self.check("a b c..", 30, "a", [("out", "a")])

    def test_seats_that_are_not_free_behind_boths_told_by_name(self):
        self.check("a b!", 0, "a", [("more",), ("more",), ("out", "a")])
        self.check("a b!", 1, "a", [("more",), ("out", "a")])
        self.check("a b! c", 0, "a c", [("more",), ("more",), ("out", "a")])
        self.check("a b!? c!", 3, "a", [("out", "a")])
        self.check("a b!?", 0, "a", [])
        self.check("a? b! c..", 0, "a", [("more",), ("more",), ("out", "a")])

    def test_labels_like_names(self):
        self.check("a! a", 0, "", 2)
        self.check("a! a", 0, "a", [("more",)])
        self.check("a a! a..", 0, "a", [("more",), ("more",), ("out", "a")])
        self.check("a! a.. a: a::", 0, "a", [("more",)])
        self.check("a!? -a", 0, "a", [("out", "a")])

    def test_great_forms_and_calls(self):
        names = [letters(k) for k in range(60)]
        boths = Form([Both(name) for name in names[:24]])
        for made, asked, number in [
                (Form([], names), call(60, " ".join(names)), 120),
                (Form([Seat("a")] * 23 + [Bag("a")], names), call(60, " ".join(names)), 97),
                (Form([Seat("a")] * 24, names), call(0, " ".join(names)), 84),
                (boths, call(0, " ".join(names[:24])), 0),
                (boths, call(24, " ".join(names[:24])), 24),
                (boths, call(60, " ".join(names)), 60 - 24 + 60),
                (boths, call(60, "zz " * 60), 60 - 24 + 60),
                (boths, [], 24),
                (Form([Both(name) for name in names[:23]] + [Tail("t")]), call(60, " ".join(names[:23])), 23),
                (Form([Tag(name) for name in names[:24]]), call(60, " ".join(names[24:])), 60 + 36 + 24),
                (Form([Tail("t"), Bag("b")], names), call(60, "zz " * 60), 59),
                (Form([Tail("t"), Bag("b")]), call(60, " ".join(names)), 0)]:
            told = mends(made, asked)
            self.check_mends(made, asked, told)
            self.assertEqual(len(told), number)

    def test_a_call_may_have_more_on_the_way(self):
        names = [letters(k) for k in range(60)]
        made = Form([Tag("z" + name) for name in names[:23]] + [Bag("b")])
        told = mends(made, call(0, " ".join(names)))
        self.check_mends(made, call(0, " ".join(names)), told)
        self.assertEqual(sorted(told), sorted(("in", "z" + name) for name in names[:23]))
        self.assertEqual(len(behind(call(0, " ".join(names)), told)), 83)

    def test_as_the_words_in_brackets_tell(self):
        dice = random.Random(13)
        for turn in range(1500):
            made = chance_form(dice)
            names = chance_names(dice, made, True)
            many = dice.choice([0, made.places(), dice.randrange(15), 30])
            asked = call(many, " ".join(names))
            told = mends(made, asked)
            self.assertEqual(len(told), reckoned(made, many, names), (made.told(), many, names))
            self.check_mends(made, asked, told)


class NoShorterList(unittest.TestCase):
    def test_all_short_lists_of_changes(self):
        changes = [("less",), ("more",)] + [(word, name) for word in ["out", "in"] for name in "abt"]
        for text in ["", "a! b", "a b!", "a? b?", "a b? t:", "a!? b -t", "b.. t: a::", "a b.. t::"]:
            for many, names in [(0, ""), (0, "a"), (1, "a"), (2, "a b"), (3, "b"), (0, "a a b"), (1, "t t"), (2, "b a t")]:
                self.check_none_shorter(form(text), call(many, names), changes)

    def check_none_shorter(self, made, asked, changes):
        told = nearest(made, asked)
        for length in range(min(told, 4)):
            for row in itertools.product(changes, repeat=length):
                try:
                    self.assertIs(fits(made, behind(asked, row)), False, (made.told(), asked, row))
                except NoChange:
                    pass

    def test_small_forms_and_calls(self):
        """From the calls that fit, one change after the other, to all calls with at most two things by each name."""
        shapes = list(itertools.product(range(5), *[range(3)] * 5))
        for made in itertools.islice(small_forms(), 0, None, 7):
            far = {shape: 0 for shape in shapes if max(shape[1:]) < 2 and fits(made, self.call_of_shape(shape))}
            edge = list(far)
            while edge:
                reached = []
                for shape, at, step in itertools.product(edge, range(6), [-1, 1]):
                    other = shape[:at] + (shape[at] + step,) + shape[at + 1:]
                    if 0 <= other[at] < (5 if at == 0 else 3) and other not in far:
                        far[other] = far[shape] + 1
                        reached.append(other)
                edge = reached
            for shape in shapes[::5]:
                asked = self.call_of_shape(shape)
                self.assertEqual(nearest(made, asked), far[shape], (made.told(), asked))
                self.assertIs(fits(made, behind(asked, mends(made, asked))), True)

    def call_of_shape(self, shape):
        return call(shape[0], " ".join(name for name, times in zip("abtxy", shape[1:]) for turn in range(times)))


class WhatStays(unittest.TestCase):
    def test_mends_that_the_asker_changes_are_told_again(self):
        made, asked = form("a! b t: -x"), call(4, "b x q q")
        first = mends(made, asked)
        kept = list(first)
        first.clear()
        self.assertEqual(mends(made, asked), kept)
        mends(made, asked).append(("more",))
        self.assertEqual(mends(made, asked), kept)
        self.assertEqual(nearest(made, asked), len(kept))
        fitting = form("a")
        mends(fitting, call(1)).append(("less",))
        self.assertEqual(mends(fitting, call(1)), [])

    def test_form_and_call_stay(self):
        made = form("a! b c.. t: e:: -x")
        asked = [("book", [("x", 1), ("b", 2), ("b", 3)]), ("row", [1, 2, 3]), ("one", 4), ("named", "y", 5)]
        before, told = copy.deepcopy(asked), made.told()
        mends(made, asked)
        nearest(made, asked)
        self.assertEqual(asked, before)
        self.assertEqual(made.told(), told)

    def test_lists_changed_behind(self):
        row, book = [1, 2], [("a", 3)]
        asked = [("row", row), ("book", book)]
        told = mends(form("a b"), asked)
        row.append(9)
        book.clear()
        self.assertEqual(told, [("out", "a")])
        self.assertEqual(mends(form("a b"), asked), [("less",)])

    def test_things_have_no_bearing(self):
        for thing in [0, -1, 10 ** 60 - 1, -10 ** 60 + 1]:
            asked = call_of([thing] * 3, [("a", thing), ("q", thing)])
            self.assertEqual(sorted(mends(form("a? b?"), asked)), sorted(mends(form("a? b?"), call(3, "a q"))))
            self.assertEqual(nearest(form("a? b?"), asked), 3)


if __name__ == "__main__":
    unittest.main()
