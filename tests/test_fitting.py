"""[9], [10], [11], [2]: where things go, the misfits, and the paper."""

import copy
import itertools
import unittest

from callbinds import errors
from callbinds.calls import call_of, laid
from callbinds.fitting import fits, misfits, paper
from callbinds.forms import Form
from callbinds.parameters import Bag, Both, Seat, Tag, Tail
from helper import CLASSES, call, form, letters, small_forms, small_names


def expected_misfits(made, many, names):
    """The misfits, thing by thing as the document tells them, of what the form tells of itself."""
    parameters, bars = made.told()
    places = [told for told in parameters if told[0] in ("seat", "both")]
    words = [told[0] for told in parameters]
    found = [("doubled", j) for j in range(len(names)) if names[j] in names[:j]]
    found += [("over", i) for i in range(many) if i >= len(places) and "tail" not in words]
    for j in range(len(names)):
        if names[j] in names[:j]:
            continue
        owners = [p for p, told in enumerate(parameters) if told[0] in ("both", "tag") and told[1] == names[j]]
        if names[j] in bars:
            found.append(("barred", j))
        elif owners and words[owners[0]] == "both" and owners[0] < many:
            found.append(("again", j))
        elif not owners and "bag" not in words:
            found.append(("strange", j))
    for p, told in enumerate(parameters):
        if told[0] in ("seat", "both", "tag") and not told[2]:
            placed = told[0] != "tag" and p < many
            named = told[0] != "seat" and told[1] in names
            if not placed and not named:
                found.append(("lacking", p))
    return found


class Misfits(unittest.TestCase):
    def check(self, text, many, names, expected):
        self.assertEqual(misfits(form(text), call(many, names)), expected)

    def test_none(self):
        self.check("", 0, "", [])
        self.check("a! b c.. d: e:: -x", 2, "d", [])
        self.check("a! b c.. d: e:: -x", 1, "d b y", [])
        self.check("a!? b? c.. d:? e:: -x", 0, "", [])

    def test_doubled_alone(self):
        self.check("a: b:", 0, "a b a", [("doubled", 2)])
        self.check("a: b:", 0, "a a b b a", [("doubled", 1), ("doubled", 3), ("doubled", 4)])
        self.check("e::", 0, "z z z", [("doubled", 1), ("doubled", 2)])
        self.check("a", 0, "a a", [("doubled", 1)])

    def test_over_alone(self):
        self.check("", 1, "", [("over", 0)])
        self.check("a! b?", 4, "", [("over", 2), ("over", 3)])
        self.check("a! b? c..", 4, "", [])
        self.check("t:? b::", 2, "", [("over", 0), ("over", 1)])

    def test_barred_alone(self):
        self.check("-x -y", 0, "y x", [("barred", 0), ("barred", 1)])
        self.check("a -x", 0, "a x", [("barred", 1)])

    def test_a_bar_beside_a_bag(self):
        self.check("e:: -x", 0, "x", [("barred", 0)])
        self.check("e:: -x", 0, "y x z", [("barred", 1)])
        self.check("x! x.. x:: -x", 1, "y x", [("barred", 1)])

    def test_again_alone(self):
        self.check("a", 1, "a", [("again", 0)])
        self.check("a? b?", 2, "b a", [("again", 0), ("again", 1)])
        self.check("a? b?", 1, "b a", [("again", 1)])
        self.check("a b..", 3, "a", [("again", 0)])
        self.check("a e::", 1, "a", [("again", 0)])

    def test_a_tag_is_never_told_again(self):
        self.check("a! t:", 1, "t", [])
        self.check("a! c.. t:", 5, "t", [])
        self.check("a! t:", 2, "t", [("over", 1)])

    def test_strange_alone(self):
        self.check("", 0, "a b", [("strange", 0), ("strange", 1)])
        self.check("a! c..", 3, "c a", [("strange", 0), ("strange", 1)])
        self.check("a? e::", 0, "z", [])

    def test_labels_take_nothing_by_name(self):
        self.check("a!? e::", 0, "a e", [])
        self.check("a!? c..", 0, "a", [("strange", 0)])
        self.check("a!", 0, "a", [("strange", 0), ("lacking", 0)])
        self.check("a! e::", 1, "a", [])

    def test_lacking_alone(self):
        self.check("a! b c.. d: e::", 0, "", [("lacking", 0), ("lacking", 1), ("lacking", 3)])
        self.check("a! b c.. d: e::", 1, "", [("lacking", 1), ("lacking", 3)])
        self.check("a! b c.. d: e::", 0, "b d", [("lacking", 0)])
        self.check("a? b", 0, "", [("lacking", 1)])
        self.check("a? b", 1, "", [("lacking", 1)])
        self.check("a!? b! d:?", 1, "", [("lacking", 1)])

    def test_free_and_not_free_of_each_sort(self):
        for word, told in [("a!", False), ("a", True), ("a:", True)]:
            self.check(word, 0, "", [("lacking", 0)])
            self.check(word + "?", 0, "", [])
            self.check(word + "?", 0, "a", [] if told else [("strange", 0)])
            self.check(word, 0, "a", [] if told else [("strange", 0), ("lacking", 0)])
        self.check("a..", 0, "", [])
        self.check("a::", 0, "", [])

    def test_several_by_one_name(self):
        self.check("a", 1, "a a a", [("doubled", 1), ("doubled", 2), ("again", 0)])
        self.check("-x", 0, "x x", [("doubled", 1), ("barred", 0)])
        self.check("", 0, "x x", [("doubled", 1), ("strange", 0)])
        self.check("a: b:", 0, "a a", [("doubled", 1), ("lacking", 1)])

    def test_a_both_with_a_thing_by_place_and_one_by_name_lacks_nothing(self):
        self.check("a b", 1, "a", [("again", 0), ("lacking", 1)])
        self.check("a b", 1, "a b", [("again", 0)])

    def test_all_six_in_their_order(self):
        self.check("a! b c: d:? -x", 4, "z b x z y x d b",
                   [("doubled", 3), ("doubled", 5), ("doubled", 7), ("over", 2), ("over", 3), ("strange", 0),
                    ("again", 1), ("barred", 2), ("strange", 4), ("lacking", 2)])
        self.check("a b -x", 1, "x q a x", [("doubled", 3), ("barred", 0), ("strange", 1), ("again", 2),
                                            ("lacking", 1)])

    def test_great_forms_and_calls(self):
        names = [letters(k) for k in range(60)]
        bars = Form([Seat("a")] * 23 + [Bag("a")], names)
        told = misfits(bars, call(60, " ".join(reversed(names))))
        self.assertEqual(told, [("over", i) for i in range(23, 60)] + [("barred", j) for j in range(60)])
        boths = Form([Both(name) for name in names[:24]])
        self.assertEqual(misfits(boths, call(24)), [])
        self.assertEqual(misfits(boths, call(0, " ".join(names[:24]))), [])
        self.assertEqual(misfits(boths, []), [("lacking", p) for p in range(24)])
        self.assertEqual(misfits(boths, call(60, " ".join(names))),
                         [("over", i) for i in range(24, 60)] + [("again", j) for j in range(24)]
                         + [("strange", j) for j in range(24, 60)])
        self.assertEqual(misfits(boths, call(24, "zz " * 60)), [("doubled", j) for j in range(1, 60)]
                         + [("strange", 0)])

    def test_small_forms_and_calls(self):
        calls = [(many, names) for many in range(4) for names in small_names()]
        for made in small_forms():
            for many, names in calls:
                asked = call(many, " ".join(names))
                expected = expected_misfits(made, many, names)
                self.assertEqual(misfits(made, asked), expected, (made.told(), asked))
                self.assertIs(fits(made, asked), not expected)


class Papers(unittest.TestCase):
    def check(self, text, many, names, expected):
        made, asked = form(text), call(many, names)
        self.assertEqual(paper(made, asked), expected)
        self.assertIs(fits(made, asked), True)

    def test_the_empty_form(self):
        self.check("", 0, "", [])
        self.check("-x", 0, "", [])

    def test_all_sorts_of_entries(self):
        self.check("a! b c.. d: e::", 5, "y d z", [("place", 0), ("place", 1), ("places", [2, 3, 4]), ("name", 1),
                                                   ("names", [0, 2])])
        self.check("a! b c.. d: e::", 1, "d b", [("place", 0), ("name", 1), ("places", []), ("name", 0),
                                                 ("names", [])])
        self.check("a!? b? c.. d:? e::", 0, "", [("free",), ("free",), ("places", []), ("free",), ("names", [])])
        self.check("a!? b? c! d", 3, "d", [("place", 0), ("place", 1), ("place", 2), ("name", 0)])
        self.check("a? b?", 0, "b", [("free",), ("name", 0)])
        self.check("a!? a a.. b: a::", 0, "b a", [("free",), ("name", 1), ("places", []), ("name", 0), ("names", [])])
        self.check("e:: -x", 0, "e y", [("names", [0, 1])])
        self.check("a! c..", 2, "", [("place", 0), ("places", [1])])

    def test_labels_in_the_bag(self):
        self.check("a! c.. e::", 2, "c a e", [("place", 0), ("places", [1]), ("names", [0, 1, 2])])

    def test_each_thing_just_once(self):
        for made in small_forms():
            for many, names in itertools.product(range(4), small_names()):
                asked = call(many, " ".join(names))
                if not expected_misfits(made, many, names):
                    self.check_each_once(made, many, names, paper(made, asked))

    def check_each_once(self, made, many, names, told):
        self.assertEqual(len(told), len(made.parameters()))
        by_place, by_name = [], []
        for parameter, entry in zip(made.parameters(), told):
            word = parameter.told()[0]
            self.assertIs(type(entry), tuple)
            if entry == ("free",):
                self.assertTrue(parameter.free() and word not in ("tail", "bag"))
            elif entry[0] == "place":
                self.assertTrue(parameter.by_place())
                by_place.append(entry[1])
            elif entry[0] == "name":
                self.assertTrue(parameter.by_name())
                self.assertEqual(names[entry[1]], parameter.name)
                by_name.append(entry[1])
            else:
                self.assertEqual((word, entry[0]) in [("tail", "places"), ("bag", "names")], True)
                self.assertIs(type(entry[1]), list)
                self.assertEqual(entry[1], sorted(entry[1]))
                (by_place if word == "tail" else by_name).extend(entry[1])
        self.assertEqual(by_place, list(range(many)))
        self.assertEqual(sorted(by_name), list(range(len(names))))

    def test_great_papers(self):
        names = [letters(k) for k in range(60)]
        made = Form([Both(name) for name in names[:10]] + [Tail("a")] + [Tag(name) for name in names[10:22]] + [Bag("a")])
        told = paper(made, call(60, " ".join(reversed(names[10:]))))
        self.assertEqual(told, [("place", i) for i in range(10)] + [("places", list(range(10, 60)))]
                         + [("name", 49 - k) for k in range(12)] + [("names", list(range(38)))])


class RefusedPapers(unittest.TestCase):
    def check(self, text, many, names, kind, number):
        made, asked = form(text), call(many, names)
        with self.assertRaises(kind) as taken:
            paper(made, asked)
        self.assertIs(type(taken.exception), kind)
        self.assertEqual(taken.exception.number, number)
        for above in [errors.Misfit, errors.CallError, ValueError]:
            with self.assertRaises(above):
                paper(made, asked)
        self.assertIs(fits(made, asked), False)

    def test_each_class(self):
        self.check("a:", 0, "a a", errors.Doubled, 1)
        self.check("a", 3, "", errors.Over, 1)
        self.check("e:: -x", 0, "y x", errors.Barred, 1)
        self.check("a b", 2, "b", errors.Again, 0)
        self.check("a! c..", 2, "q", errors.Strange, 0)
        self.check("a! b? c:", 1, "", errors.Lacking, 2)

    def test_the_first_of_several(self):
        self.check("a! b c: d:? -x", 4, "z b x z", errors.Doubled, 3)
        self.check("a! b c: d:? -x", 4, "z b x", errors.Over, 2)
        self.check("a! b c: d:? -x", 2, "z b x", errors.Strange, 0)
        self.check("a! b c: d:? -x", 2, "b x z", errors.Again, 0)
        self.check("a! b c: d:? -x", 2, "x b z", errors.Barred, 0)
        self.check("a! b c: d:? -x", 0, "d", errors.Lacking, 0)

    def test_small_forms_and_calls(self):
        for made in small_forms():
            for many, names in itertools.product(range(4), small_names()):
                expected = expected_misfits(made, many, names)
                if expected:
                    with self.assertRaises(errors.Misfit) as taken:
                        paper(made, call(many, " ".join(names)))
                    self.assertIs(type(taken.exception), CLASSES[expected[0][0]])
                    self.assertEqual(taken.exception.number, expected[0][1])


class AsPythonTakesThem(unittest.TestCase):
    """Where Python can write a form as a def, that def takes the same calls."""

    def python_def(self, made):
        by_sort = {word: [] for word in ["seat", "both", "tail", "tag", "bag"]}
        for word, name, *free in made.told()[0]:
            # A label has no meaning for a call, so it may be made unlike all names.
            label = name if word in ("both", "tag") else "label_" + word + name
            by_sort[word].append(label + ("=None" if free == [True] else ""))
        places = [told for told in made.told()[0] if told[0] in ("seat", "both")]
        if [told[0] for told in places] != ["seat"] * len(by_sort["seat"]) + ["both"] * len(by_sort["both"]):
            return None
        if [told[2] for told in places] != sorted(told[2] for told in places):
            return None
        parts = by_sort["seat"] + ["/"] * bool(by_sort["seat"]) + by_sort["both"]
        parts += ["*" + name for name in by_sort["tail"]] or ["*"] * bool(by_sort["tag"])
        parts += by_sort["tag"] + ["**" + name for name in by_sort["bag"]]
        room = {}
        exec("def taker(" + ", ".join(parts) + "): pass", room)
        return room["taker"]

    def test_small_forms(self):
        tried = 0
        for made in small_forms():
            taker = None if made.bars() else self.python_def(made)
            if taker is None:
                continue
            for many, names in itertools.product(range(4), small_names()):
                if len(set(names)) < len(names):
                    continue
                try:
                    taker(*[0] * many, **{name: 0 for name in names})
                    taken = True
                except TypeError:
                    taken = False
                self.assertIs(fits(made, call(many, " ".join(names))), taken, (made.told(), many, names))
                tried += 1
        self.assertGreater(tried, 5000)


class WhatHasNoBearing(unittest.TestCase):
    def test_things_and_how_they_lie_in_items(self):
        ways = [[("one", 1), ("one", 2), ("one", 3), ("named", "d", 4), ("named", "y", 5)],
                [("named", "d", 0), ("row", [9, -9]), ("book", []), ("one", 10 ** 59), ("named", "y", 0)],
                [("book", [("d", 1), ("y", 1)]), ("row", []), ("row", [1, 1, 1])],
                [("row", [0]), ("book", [("d", -1)]), ("row", [0, 0]), ("book", [("y", -1)])]]
        for text in ["a! b c.. d: e::", "a! b c! d: e::", "a b d -y", "", "a? b? y: e:: -d", "q.. d:"]:
            made = form(text)
            first = misfits(made, ways[0])
            for way in ways:
                self.assertEqual(misfits(made, way), first)
                self.assertIs(fits(made, way), first == [])
                if not first:
                    self.assertEqual(paper(made, way), paper(made, ways[0]))

    def test_told_great_calls_are_handed_in_again(self):
        asked = call_of(list(range(60)), [(letters(k), k) for k in range(60)])
        made = form("c.. e::")
        self.assertEqual(paper(made, call_of(*laid(asked))), [("places", list(range(60))), ("names", list(range(60)))])


class WhatStays(unittest.TestCase):
    def test_form_and_call(self):
        made = form("a! b c.. d: e:: -x")
        asked = [("row", [1, 2, 3]), ("book", [("d", 1), ("y", 2)]), ("one", 4), ("named", "z", 3)]
        before, told = copy.deepcopy(asked), made.told()
        entries = paper(made, asked)
        misfits(made, asked)
        fits(made, asked)
        self.assertEqual(asked, before)
        self.assertEqual(made.told(), told)
        kept = copy.deepcopy(entries)
        entries[2][1].append(99)
        entries[4][1].clear()
        entries.pop()
        self.assertEqual(paper(made, asked), kept)

    def test_told_misfits_belong_to_the_asker(self):
        made, asked = form("a b -x"), call(3, "a x x")
        first = misfits(made, asked)
        kept = list(first)
        first.clear()
        self.assertEqual(misfits(made, asked), kept)
        self.assertIs(type(kept), list)
        self.assertEqual([type(one) for one in kept], [tuple] * len(kept))

    def test_lists_changed_behind_the_making_of_a_form(self):
        parameters, bars = [Both("a"), Tail("t")], ["x"]
        made = Form(parameters, bars)
        parameters.clear()
        bars[0] = "y"
        self.assertEqual(misfits(made, call(0, "x y")), [("barred", 0), ("strange", 1), ("lacking", 0)])

    def test_a_told_paper_hangs_on_no_later_list(self):
        row = [1, 2]
        asked = [("row", row)]
        told = paper(form("c.."), asked)
        row.append(3)
        self.assertEqual(told, [("places", [0, 1])])
        self.assertEqual(paper(form("c.."), asked), [("places", [0, 1, 2])])


if __name__ == "__main__":
    unittest.main()
