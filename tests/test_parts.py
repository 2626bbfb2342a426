"""[22], [23], [2]: calls made in parts, and the form left behind a part."""

import copy
import itertools
import random
import unittest

from callbinds import errors
from callbinds.calls import call_of, laid
from callbinds.fitting import fits, misfits
from callbinds.forms import Form
from callbinds.mending import mends
from callbinds.parameters import Bag, Both, Seat, Tag, Tail
from callbinds.parts import Part
from helper import (CLASSES, answer_of, behind, call, chance_form, chance_names, form, letters, small_forms,
                    small_names, stands_as_a_form)


def first_but_lacking(made, asked):
    """The class and the number of the first misfit that is not lacking, or None."""
    found = [(CLASSES[word], number) for word, number in misfits(made, asked) if word != "lacking"]
    return found[0] if found else None


class Made(unittest.TestCase):
    def check_refused(self, text, many, names, kind, number):
        self.assertEqual(answer_of(Part, form(text), call(many, names)), (kind, number))
        with self.assertRaises(errors.CallError):
            Part(form(text), call(many, names))

    def test_made(self):
        for text, many, names in [("", 0, ""), ("a! b c.. d: e::", 0, ""), ("a! b", 1, ""), ("a! b", 0, "b"),
                                  ("a b!", 0, "a"), ("a b c:", 2, ""), ("c..", 5, ""), ("e:: -x", 0, "y z"),
                                  ("a! t:", 0, "t"), ("t: u:", 0, "u")]:
            self.assertIs(type(Part(form(text), call(many, names))), Part)

    def test_refused(self):
        self.check_refused("a b: e::", 0, "b b", errors.Doubled, 1)
        self.check_refused("a! b", 4, "", errors.Over, 2)
        self.check_refused("a! e:: -x", 0, "y x", errors.Barred, 1)
        self.check_refused("a b t:", 1, "a", errors.Again, 0)
        self.check_refused("a b t:", 1, "t q", errors.Strange, 1)
        self.check_refused("", 1, "", errors.Over, 0)

    def test_the_first_of_several(self):
        self.check_refused("a! b c: d:? -x", 4, "z b x z", errors.Doubled, 3)
        self.check_refused("a! b c: d:? -x", 4, "z b x", errors.Over, 2)
        self.check_refused("a! b c: d:? -x", 2, "b x z", errors.Again, 0)
        self.check_refused("a! b! c: d:? -x", 1, "x z", errors.Barred, 0)
        self.check_refused("a! b! c: d:? -x", 1, "z x", errors.Strange, 0)

    def test_small_forms_and_calls(self):
        calls = [call(many, " ".join(names)) for many in range(4) for names in small_names()]
        for number, made in enumerate(small_forms()):
            for asked in calls[number % 7::7]:
                told, expected = answer_of(Part, made, asked), first_but_lacking(made, asked)
                if expected is None:
                    self.assertIs(type(told), Part)
                else:
                    self.assertEqual(told, expected)


class Whole(unittest.TestCase):
    def test_first_things_ahead_of_further_ones(self):
        part = Part(form("c.. e::"), [("named", "y", 1), ("row", [2, 3]), ("book", [("z", 4)]), ("one", 5)])
        self.assertEqual(part.whole([("book", [("w", 6)]), ("one", 7), ("named", "v", 8), ("row", [9])]),
                         [("one", 2), ("one", 3), ("one", 5), ("one", 7), ("one", 9), ("named", "y", 1),
                          ("named", "z", 4), ("named", "w", 6), ("named", "v", 8)])
        self.assertEqual(part.whole([]), [("one", 2), ("one", 3), ("one", 5), ("named", "y", 1), ("named", "z", 4)])
        self.assertEqual(part.whole([("row", []), ("book", [])]), part.whole([]))

    def test_whether_it_fits_or_not(self):
        part = Part(form("a! b -x"), call(1, "b"))
        for many, names in [(0, ""), (5, ""), (0, "b b"), (3, "x q b")]:
            told = part.whole(call(many, names))
            things, pairs = laid(call(many, names))
            self.assertEqual(told, call_of([7] + things, [("b", 40)] + pairs))

    def test_no_first_things(self):
        part = Part(form("a"), [])
        self.assertEqual(part.whole([("named", "q", 1), ("row", [4, 5])]), [("one", 4), ("one", 5), ("named", "q", 1)])
        self.assertEqual(part.whole([]), [])

    def test_great_calls(self):
        names = [letters(k) for k in range(60)]
        first = call_of(list(range(30)), [(name, 1) for name in names[:30]])
        further = call_of(list(range(30, 60)), [(name, 1) for name in names[30:]])
        told = Part(form("c.. e::"), first).whole(further)
        self.assertEqual(told, call_of(list(range(60)), [(name, 1) for name in names]))
        self.assertEqual(Part(form("c.. e::"), told).whole([]), told)


class Further(unittest.TestCase):
    def test_a_part_of_a_part(self):
        made = form("a! b c d.. t: e:: -x")
        part = Part(made, call(1, "y"))
        both = part.further([("one", 50), ("named", "t", 51)])
        self.assertIs(type(both), Part)
        self.assertEqual(both.whole([]), [("one", 7), ("one", 50), ("named", "y", 40), ("named", "t", 51)])
        third = both.further([("row", [52, 53])])
        self.assertEqual(third.whole([("one", 54)]),
                         [("one", 7), ("one", 50), ("one", 52), ("one", 53), ("one", 54), ("named", "y", 40),
                          ("named", "t", 51)])

    def test_refused_with_the_numbers_of_the_whole_call(self):
        part = Part(form("a! b c t: -x"), call(2, "c"))
        for many, names, expected in [(0, "c", (errors.Doubled, 1)), (0, "t t", (errors.Doubled, 2)),
                                      (2, "", (errors.Over, 3)), (1, "", (errors.Again, 0)),
                                      (0, "t x", (errors.Barred, 2)), (0, "b", (errors.Again, 1)),
                                      (0, "t q", (errors.Strange, 2)), (2, "c", (errors.Doubled, 1))]:
            self.assertEqual(answer_of(part.further, call(many, names)), expected)
            self.assertEqual(part.whole([]), call(2, "c"))

    def test_the_part_itself_stays(self):
        made = form("a! b c.. t: e:: -x")
        part = Part(made, call(1, "y"))
        left = part.left().told()
        part.further(call(3, "t z"))
        with self.assertRaises(errors.Doubled):
            part.further(call(0, "y"))
        self.assertEqual(part.whole([]), call(1, "y"))
        self.assertEqual(part.left().told(), left)

    def test_small_forms_and_calls(self):
        calls = [call(many, " ".join(names)) for many in range(3) for names in small_names()]
        dice = random.Random(22)
        for made in small_forms():
            for first, second in [(dice.choice(calls), dice.choice(calls)) for turn in range(25)]:
                part = answer_of(Part, made, first)
                if isinstance(part, Part):
                    whole = part.whole(second)
                    expected = first_but_lacking(made, whole)
                    told = answer_of(part.further, second)
                    if expected is None:
                        self.assertEqual(told.whole([]), whole)
                        self.assertEqual(told.whole(first), Part(made, whole).whole(first))
                        self.check_alike(told.left(), Part(made, whole).left())
                    else:
                        self.assertEqual(told, expected)

    def check_alike(self, one, other):
        self.assertEqual(one is None, other is None)
        if one is not None:
            self.assertEqual(one.told(), other.told())


class Left(unittest.TestCase):
    def check_bounds(self, made, names, left):
        self.assertIs(type(left), Form)
        self.assertTrue(stands_as_a_form(left), left.told())
        parameters, bars = left.told()
        self.assertLessEqual(len(parameters), len(made.parameters()))
        boths = [told for told in made.told()[0] if told[0] == "both"]
        self.assertLessEqual(len(bars), len(made.bars()) + len(boths) + len(names))

    def check(self, text, many, names, expected):
        """Expected is a form that takes the same further calls, or None; told are the answers on many calls."""
        made = form(text)
        part = Part(made, call(many, names))
        left = part.left()
        if expected is None:
            self.assertIsNone(left)
            return
        self.check_bounds(made, names.split(), left)
        same = form(expected)
        letters_in = sorted({told[1] for told in made.told()[0]} | set(made.bars()) | set(names.split()) | {"q"})
        for more in range(5):
            for count in range(4):
                for further in itertools.combinations(letters_in, count):
                    asked = call(more, " ".join(further))
                    self.assertIs(fits(left, asked), fits(same, asked), (left.told(), asked))
                    self.assertIs(fits(left, asked), fits(made, part.whole(asked)))

    def test_no_first_things(self):
        for text in ["", "-x", "a! b c.. d: e:: -x", "a!? b? t:?", "a! b!"]:
            self.check(text, 0, "", text)

    def test_first_things_by_place(self):
        self.check("a! b c", 1, "", "b c -a")
        self.check("a! b c", 2, "", "c")
        self.check("a! b c", 3, "", "")
        self.check("a b e::", 1, "", "b e:: -a")
        self.check("a b c.. e::", 4, "", "c.. e:: -a -b")
        self.check("a! c..", 1, "", "c..")
        self.check("a! b e:: -x", 1, "", "b e:: -x")

    def test_first_things_by_name(self):
        self.check("t: u: e::", 0, "u", "t: e:: -u")
        self.check("t: u:?", 0, "u t", "")
        self.check("e:: -x", 0, "y z", "e:: -x -y -z")
        self.check("a! t:", 0, "t", "a!")

    def test_a_both_told_by_name(self):
        self.check("a b c", 0, "b", "a c:")
        self.check("a b? c? d..", 0, "b", "a c:?")
        self.check("a b? c? d.. e::", 0, "b", "a c:? e:: -b")
        self.check("a b c", 1, "b", "c:")
        self.check("a b c", 0, "c b", "a")
        self.check("a b c", 0, "a c", "b:")
        self.check("a! b c.. t:", 1, "b", "t:")

    def test_seats_behind_a_both_told_by_name(self):
        self.check("a b!", 0, "a", None)
        self.check("a b!?", 0, "a", "")
        self.check("a b!? c d!", 0, "a", None)
        self.check("a b!? c d!?", 0, "a", "c:")
        self.check("a! b c! d?", 1, "b", None)
        self.check("a! b c! d?", 1, "d", "b c!")
        self.check("a! b c!? d e!", 0, "d", None)
        self.check("a! b c! d e!?", 2, "d", "c!")

    def test_labels_like_names(self):
        self.check("a! a", 0, "a", "a!")
        self.check("a a! b", 0, "b", "a a!")
        self.check("a! a e::", 1, "", "a e::")
        self.check("a! a e::", 0, "a", "a! e:: -a")
        self.check("a! a.. a::", 2, "a", "a.. a:: -a")
        self.check("a! b.. a: a::", 1, "a", "b.. a:: -a")

    def test_small_forms(self):
        self.check_by_calls(itertools.islice(small_forms(), 0, None, 5), 20)

    def test_forms_of_four_places(self):
        dice = random.Random(23)
        made = []
        for turn in range(120):
            places = [dice.choice([Seat, Both])("abcd"[at], dice.random() < 0.5) for at in range(dice.choice([3, 4]))]
            ends = [Tail("a")] * dice.randrange(2) + [Tag("t", dice.random() < 0.5)] * dice.randrange(2)
            made.append(Form(places + ends + [Bag("b")] * dice.randrange(2), ["x"] * dice.randrange(2)))
        self.check_by_calls(made, 40)

    def check_by_calls(self, forms, turns):
        """For chance first things all short further calls: just where the whole fits, the left form takes them."""
        dice = random.Random(24)
        nones = 0
        for made in forms:
            names = [name for name in "abcdt" if made.number_of(name) is not None] + ["x", "y"]
            further = [(more, chosen) for more in range(made.places() + 2)
                       for count in range(len(names) + 1) for chosen in itertools.combinations(names, count)]
            for turn in range(turns):
                first = call(dice.randrange(made.places() + 2), " ".join(dice.sample(names, dice.randrange(3))))
                part = answer_of(Part, made, first)
                if isinstance(part, Part):
                    nones += self.check_part(made, part, dice.sample(further, min(20, len(further))), further)
        self.assertGreater(nones, 5)

    def check_part(self, made, part, some, further):
        left = part.left()
        if left is None:
            for more, names in further:
                self.assertIs(fits(made, part.whole(call(more, " ".join(names)))), False)
            return 1
        self.check_bounds(made, [name for name, thing in laid(part.whole([]))[1]], left)
        for more, names in some:
            asked = call(more, " ".join(names))
            self.assertIs(fits(left, asked), fits(made, part.whole(asked)), (made.told(), part.whole([]), asked))
            for close in [behind(asked, mends(left, asked)), asked + [("named", "y", 0)]]:
                self.assertIs(fits(left, close), fits(made, part.whole(close)))
        # Some call fits each form, so one fits behind the part.
        self.assertIs(fits(made, part.whole(behind([], mends(left, [])))), True)
        return 0

    def test_great_forms(self):
        dice = random.Random(25)
        made_parts = 0
        for turn in range(700):
            made = chance_form(dice)
            names = chance_names(dice, made, False)
            part = answer_of(Part, made, call(dice.randrange(made.places() + 3), " ".join(names[:turn % 5])))
            if isinstance(part, Part) and part.left() is not None:
                made_parts += 1
                left = part.left()
                self.check_bounds(made, names[:turn % 5], left)
                for step in range(6):
                    asked = call(dice.randrange(8), " ".join(chance_names(dice, made, step == 0)))
                    changes = mends(left, asked)
                    for close in [behind(asked, changes[:last]) for last in range(len(changes) + 1)]:
                        self.assertIs(fits(left, close), fits(made, part.whole(close)))
                    changes = mends(made, part.whole(asked))
                    self.assertIs(fits(left, asked), not changes)
        self.assertGreater(made_parts, 150)

    def test_the_bounds(self):
        names = [letters(k) for k in range(60)]
        boths = [Both("b" + name) for name in names[:23]]
        made = Form(boths + [Bag("e")], names)
        for many, first in [(0, ""), (23, ""), (10, "q r"), (5, "bah q"), (0, " ".join("z" + name for name in names))]:
            part = Part(made, call(many, first))
            left = part.left()
            self.check_bounds(made, first.split(), left)
            for asked in [call(0), call(23 - many), call(0, "baa"), call(0, "zaa"), call(0, "aa"), call(0, "zzz"),
                          call(0, " ".join(one.name for one in boths)), call(3, " ".join(names))]:
                self.assertIs(fits(left, asked), fits(made, part.whole(asked)))
                close = behind(asked, mends(left, asked))
                self.assertIs(fits(made, part.whole(close)), True)

    def test_a_told_form_above_the_bounds_is_handed_in_again(self):
        names = [letters(k) for k in range(60)]
        made = Form([Both("yy"), Both("zz"), Bag("e")], names)
        left = Part(made, call(1)).left()
        self.assertEqual(sorted(left.bars()), sorted(names + ["yy"]))
        self.assertEqual([fits(left, call(0, "zz")), fits(left, call(0, "yy zz")), fits(left, call(1, "q"))],
                         [True, False, True])
        again = Part(left, call(0, "q")).left()
        self.assertEqual([fits(again, call(1)), fits(again, call(1, "q")), fits(again, call(1, "yy"))],
                         [True, False, False])

    def test_left_behind_left(self):
        made = form("a! b c d? f.. t: u:? e:: -x")
        part = Part(made, call(1, "y"))
        again = Part(part.left(), call(1, "t")).left()
        at_once = part.further(call(1, "t")).left()
        for many, names in itertools.product(range(4), ["", "c", "d", "d c", "t", "u z", "y", "x", "b"]):
            asked = call(many, names)
            self.assertIs(fits(again, asked), fits(at_once, asked))
            self.assertIs(fits(again, asked), fits(made, call(2 + many, "y t " + names)))


class WhatStays(unittest.TestCase):
    def test_lists_changed_behind(self):
        row, book, items = [1], [("y", 2)], []
        items.extend([("row", row), ("book", book)])
        part = Part(form("a! b e::"), items)
        left = part.left().told()
        row.append(3)
        book.clear()
        items.clear()
        self.assertEqual(part.whole([]), [("one", 1), ("named", "y", 2)])
        self.assertEqual(part.left().told(), left)
        further = [("row", row)]
        both = part.further([("one", 5)])
        told = part.whole(further)
        row.clear()
        self.assertEqual(told, [("one", 1), ("one", 1), ("one", 3), ("named", "y", 2)])
        self.assertEqual(both.whole([]), [("one", 1), ("one", 5), ("named", "y", 2)])

    def test_what_is_handed_in_stays(self):
        made = form("a! b c.. t: e:: -x")
        first, further = [("row", [1]), ("book", [("y", 2)])], [("book", [("t", 1)]), ("row", [4, 5])]
        before = copy.deepcopy((first, further))
        part = Part(made, first)
        part.whole(further)
        part.further(further)
        part.left()
        self.assertEqual((first, further), before)
        self.assertEqual(made.told(), form("a! b c.. t: e:: -x").told())

    def test_what_is_told_belongs_to_the_asker(self):
        part = Part(form("a! b c.. t: e:: -x"), call(1, "y"))
        whole = part.whole(call(1))
        kept = list(whole)
        whole.clear()
        self.assertEqual(part.whole(call(1)), kept)
        left = part.left()
        told = left.told()
        left.parameters().clear()
        left.bars().clear()
        left.told()[1].append("q")
        self.assertEqual(left.told(), told)
        self.assertEqual(part.left().told(), told)


if __name__ == "__main__":
    unittest.main()
