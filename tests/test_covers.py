"""[24], [25], [2], [3]: the eight sorts of covers, what they hand on and refuse, and their forms over forms."""

import copy
import itertools
import random
import unittest

from callbinds import errors
from callbinds.calls import call_of, laid
from callbinds.covers import Ahead, ByName, ByPlace, Cover, Exchange, Spare, Swallow, With, Without
from callbinds.fitting import fits
from callbinds.forms import Form
from callbinds.mending import mends
from callbinds.parameters import Bag, Both, Seat, Tag, Tail
from helper import answer_of, behind, call, chance_form, chance_names, form, letters, small_forms, stands_as_a_form

MIXED = [("named", "a", 1), ("row", []), ("one", 2), ("book", [("b", 3), ("c", 4)]), ("row", [5, 6]), ("book", [])]
MIXED_THINGS, MIXED_PAIRS = [2, 5, 6], [("a", 1), ("b", 3), ("c", 4)]
GREAT = 10 ** 60 - 1
NO_NAMES = [None, True, False, 0, 3, -1, "", "A", "aB", "a1", "a b", " a", "a ", "a\n", "a_", "abcdefghi", b"a", ["a"],
            ("a",), {"a": 1}, {"a"}, [], object()]


def sorts():
    """A cover of each sort."""
    return [Ahead(1), With("a", 1), Spare("a", 1), Without("a"), Exchange("a", "b"), Swallow(), ByPlace(), ByName()]


def small_covers():
    """Covers of all sorts, with the names of small forms and one that these haven't."""
    named = [kind(name, 0) for kind in [With, Spare] for name in "abtxy"] + [Without(name) for name in "abtxy"]
    pairs = itertools.combinations_with_replacement("abtxy", 2)
    exchanges = [Exchange(one, other) for one, other in pairs] + [Exchange("t", "a"), Exchange("y", "b")]
    return [Ahead(0)] + named + exchanges + [Swallow(), ByPlace(), ByName()]


def comes_through(cover, made, asked):
    """Whether a cover does not refuse a call, and what it hands on fits the form."""
    try:
        return fits(made, cover.through(asked))
    except errors.Misfit:
        return False


def described(cover):
    """The class of a cover and its values, to tell which one a test failed with."""
    return (type(cover).__name__, sorted(vars(cover).items()))


class Classes(unittest.TestCase):
    def test_each_of_its_own_class(self):
        kinds = [Ahead, With, Spare, Without, Exchange, Swallow, ByPlace, ByName]
        for at, cover in enumerate(sorts()):
            self.assertIsInstance(cover, Cover)
            self.assertEqual([isinstance(cover, kind) for kind in kinds], [number == at for number in range(8)])
            self.assertIs(type(cover), kinds[at])


class NoNames(unittest.TestCase):
    def check_refused(self, kind, *handed):
        with self.assertRaises(errors.CallError) as taken:
            kind(*handed)
        self.assertIs(type(taken.exception), errors.NoName)

    def test_refused(self):
        for wrong in NO_NAMES:
            self.check_refused(With, wrong, 1)
            self.check_refused(Spare, wrong, 1)
            self.check_refused(Without, wrong)
            self.check_refused(Exchange, wrong, "a")
            self.check_refused(Exchange, "a", wrong)
            self.check_refused(Exchange, wrong, wrong)

    def test_names(self):
        for name in ["a", "z", "abcdefgh", "zzzzzzzz", "with"]:
            self.assertEqual(With(name, 1).through([]), [("named", name, 1)])
            self.assertEqual(Spare(name, 1).through([]), [("named", name, 1)])
            self.assertEqual(Without(name).through([("named", name, 1)]), [])
            self.assertEqual(Exchange(name, "b").through([("named", name, 1)]), [("named", "b", 1)])
            self.assertEqual(Exchange("b", name).through([("named", name, 1)]), [("named", "b", 1)])


class Through(unittest.TestCase):
    def check(self, cover, asked, things, pairs):
        self.assertEqual(cover.through(asked), call_of(things, pairs))

    def test_ahead(self):
        self.check(Ahead(9), MIXED, [9] + MIXED_THINGS, MIXED_PAIRS)
        self.check(Ahead(-GREAT), [], [-GREAT], [])
        self.check(Ahead(0), call(0, "a b"), [0], [("a", 40), ("b", 41)])
        self.check(Ahead(0), call(60), [0] + list(range(7, 67)), [])

    def test_with(self):
        self.check(With("d", 9), MIXED, MIXED_THINGS, MIXED_PAIRS + [("d", 9)])
        self.check(With("d", GREAT), [], [], [("d", GREAT)])
        self.check(With("d", 0), call(2), [7, 8], [("d", 0)])

    def test_with_a_name_that_the_call_tells(self):
        self.check(With("b", 9), MIXED, MIXED_THINGS, MIXED_PAIRS + [("b", 9)])
        self.check(With("a", 9), [("named", "a", 9)], [], [("a", 9), ("a", 9)])

    def test_spare(self):
        self.check(Spare("d", 9), MIXED, MIXED_THINGS, MIXED_PAIRS + [("d", 9)])
        self.check(Spare("d", 9), [], [], [("d", 9)])
        for name in "abc":
            self.check(Spare(name, 9), MIXED, MIXED_THINGS, MIXED_PAIRS)
        self.check(Spare("c", 9), [("book", [("c", 4)])], [], [("c", 4)])
        self.check(Spare("c", 9), [("named", "c", 0)], [], [("c", 0)])

    def test_without(self):
        self.check(Without("a"), MIXED, MIXED_THINGS, [("b", 3), ("c", 4)])
        self.check(Without("b"), MIXED, MIXED_THINGS, [("a", 1), ("c", 4)])
        self.check(Without("d"), MIXED, MIXED_THINGS, MIXED_PAIRS)
        self.check(Without("a"), [], [], [])

    def test_exchange(self):
        self.check(Exchange("a", "b"), MIXED, MIXED_THINGS, [("b", 1), ("a", 3), ("c", 4)])
        self.check(Exchange("b", "a"), MIXED, MIXED_THINGS, [("b", 1), ("a", 3), ("c", 4)])
        self.check(Exchange("b", "d"), MIXED, MIXED_THINGS, [("a", 1), ("d", 3), ("c", 4)])
        self.check(Exchange("d", "b"), MIXED, MIXED_THINGS, [("a", 1), ("d", 3), ("c", 4)])
        self.check(Exchange("d", "e"), MIXED, MIXED_THINGS, MIXED_PAIRS)
        self.check(Exchange("b", "b"), MIXED, MIXED_THINGS, MIXED_PAIRS)
        self.check(Exchange("d", "d"), [], [], [])

    def test_swallow(self):
        self.check(Swallow(), MIXED, [5, 6], MIXED_PAIRS)
        self.check(Swallow(), [("row", []), ("book", []), ("row", []), ("row", [4, 5])], [5], [])
        self.check(Swallow(), [("row", []), ("one", 4)], [], [])
        self.check(Swallow(), [("named", "a", 1), ("one", 4)], [], [("a", 1)])

    def test_by_place(self):
        self.check(ByPlace(), [("row", [1, 2]), ("book", []), ("one", 3), ("row", [])], [1, 2, 3], [])
        self.check(ByPlace(), [], [], [])

    def test_by_name(self):
        self.check(ByName(), [("book", [("b", 1), ("a", 2)]), ("row", []), ("named", "c", 3)], [],
                   [("b", 1), ("a", 2), ("c", 3)])
        self.check(ByName(), [], [], [])

    def test_bounds_of_what_is_handed_on(self):
        things, pairs = list(range(60)), [(letters(k), k) for k in range(60)]
        for cover, more, further in [(Ahead(9), [9], []), (With("zz", 9), [], [("zz", 9)]),
                                     (Spare("zz", 9), [], [("zz", 9)])]:
            told = cover.through(call_of(things, pairs))
            self.assertEqual(told, call_of(more + things, pairs + further))
            self.assertEqual(laid(Without("zz").through(told)), (more + things, pairs))


class Refused(unittest.TestCase):
    def check_refused(self, cover, asked, kind, number):
        self.assertEqual(answer_of(cover.through, asked), (kind, number), described(cover))
        with self.assertRaises(errors.Misfit):
            cover.through(asked)

    def test_a_name_twice_by_its_number(self):
        doubled = [(call(0, "a a"), 1), (call(0, "a b a b"), 2), (call(1, "b c c b"), 2), (call(2, "q r s r q"), 3),
                   ([("book", [("c", 1), ("b", 2)]), ("one", 3), ("book", []), ("named", "b", 4)], 2),
                   ([("named", "y", 1), ("book", [("y", 1), ("z", 2), ("y", 2)])], 1)]
        for cover in sorts() + [With("q", 0), Spare("q", 0), Without("q"), Exchange("a", "a")]:
            for asked, number in doubled:
                self.check_refused(cover, asked, errors.Doubled, number)

    def test_a_name_twice_ahead_of_the_own_refusal(self):
        self.check_refused(Swallow(), call(0, "a b b"), errors.Doubled, 2)
        self.check_refused(ByPlace(), call(0, "a b c a"), errors.Doubled, 3)
        self.check_refused(ByName(), call(3, "a b a"), errors.Doubled, 2)

    def test_names_that_a_cover_takes_out_or_exchanges(self):
        self.check_refused(Without("a"), call(0, "a a"), errors.Doubled, 1)
        self.check_refused(Exchange("a", "b"), call(0, "b a b"), errors.Doubled, 2)
        self.check_refused(Spare("a", 1), call(0, "a c a"), errors.Doubled, 2)

    def test_swallow(self):
        for asked in [[], [("row", [])], [("row", []), ("book", [("a", 1)]), ("row", [])], call(0, "a b")]:
            self.check_refused(Swallow(), asked, errors.Lacking, 0)

    def test_by_place(self):
        for asked in [call(0, "a"), call(3, "a b"), [("book", []), ("one", 1), ("book", [("c", 1), ("d", 2)])]]:
            self.check_refused(ByPlace(), asked, errors.Strange, 0)

    def test_by_name(self):
        for asked in [call(1), call(3, "a b"), [("row", []), ("named", "a", 1), ("row", [4, 5])]]:
            self.check_refused(ByName(), asked, errors.Over, 0)

    def test_nothing_else_is_refused(self):
        for cover in sorts()[:5]:
            for asked in [[], call(5), call(0, "a b c"), call(30, "q b"), MIXED]:
                self.assertIs(type(cover.through(asked)), list)


class Over(unittest.TestCase):
    def check_bounds(self, cover, made, told):
        self.assertIs(type(told), Form)
        self.assertTrue(stands_as_a_form(told), told.told())
        self.assertLessEqual(len(told.parameters()), len(made.parameters()) + 1, described(cover))
        self.assertLessEqual(len(told.bars()), len(made.bars()) + 1, described(cover))

    def check_calls(self, cover, made, told, calls):
        for asked in calls:
            expected = comes_through(cover, made, asked)
            taken = told is not None and fits(told, asked)
            self.assertIs(taken, expected, (described(cover), made.told(), told and told.told(), asked))

    def check(self, cover, text, expected):
        """Expected is a form that takes the same calls, or None; looked at are all small calls."""
        made = form(text)
        told = cover.over(made)
        self.assertEqual(told is None, expected is None, (described(cover), text))
        pool = sorted(set("".join(sign if sign.isalpha() else " " for sign in text).split()) | set("nmq"))
        calls = [call(many, " ".join(names)) for many in range(made.places() + 3) for count in range(4)
                 for names in itertools.combinations(pool, count)]
        self.check_calls(cover, made, told, calls)
        if told is not None:
            self.check_bounds(cover, made, told)
            for asked in calls:
                self.assertIs(fits(told, asked), fits(form(expected), asked), (described(cover), text, asked))

    def test_ahead(self):
        for text, expected in [("a! b c", "b c"), ("a b e::", "b e:: -a"), ("c..", "c.."), ("a c.. t:", "c.. t:"),
                               ("", None), ("t: e:: -x", None), ("a!? b!", "b!"), ("a? e:: -x", "e:: -x -a")]:
            self.check(Ahead(3), text, expected)

    def test_with(self):
        for text, expected in [("n a", "a:"), ("a n b", "a b:"), ("a n b!", None), ("a n b!? c..", "a"), ("n:", ""),
                               ("n:? t: e::", "t: e:: -n"), ("e::", "e:: -n"), ("a! t:", None), ("e:: -n", None),
                               ("a -n", None), ("n! e::", "n! e:: -n"), ("n! b", None), ("n.. n::", "n.. n:: -n")]:
            self.check(With("n", 3), text, expected)

    def test_spare(self):
        for text, expected in [("n a", "a: n:?"), ("a n b", "a b: n:?"), ("a n b!", None), ("a n b!? c..", "a n:?"),
                               ("n:", "n:?"), ("n:? t: e::", "n:? t: e::"), ("n e::", "e::"), ("e::", "e::"),
                               ("a! t:", None), ("e:: -n", None), ("a -n", None), ("n! e::", "n! e::"), ("n! b", None),
                               ("n.. n:: -x", "n.. n:: -x"), ("n? b? c? d..", "n:? b:? c:?")]:
            self.check(Spare("n", 3), text, expected)

    def test_without(self):
        for text, expected in [("n a", "n! a n:?"), ("n? a", "n!? a n:?"), ("n? e::", "n!? e::"), ("n:", None),
                               ("n:? t:", "n:? t:"), ("n: e::", None), ("e:: -n", "e::"), ("a -n -x", "a n:?"),
                               ("", "n:?"), ("c.. t: e::", "c.. t: e::"), ("n! n.. n::", "n! n.. n::"),
                               ("a n! b", "a n! b n:?"), ("a n b c..", "a n! b c.. n:?")]:
            self.check(Without("n"), text, expected)

    def test_exchange(self):
        for text, expected in [("n a m", "m a n"), ("n a", "m a"), ("a m", "a n"), ("a", "a"), ("n? m:", "m? n:"),
                               ("e:: -n", "e:: -m"), ("n e:: -m", "m e:: -n"), ("n e::", "m e::"), ("n! m", "n! n"),
                               ("e:: -n -m", "e:: -n -m"), ("n! a m.. n::", "n! a m.. n::"), ("m:? t:", "n:? t:")]:
            self.check(Exchange("n", "m"), text, expected)
            self.check(Exchange("m", "n"), text, expected)
            self.check(Exchange("n", "n"), text, text)
            self.check(Exchange("q", "q"), text, text)

    def test_swallow(self):
        for text in ["", "a b", "a!? b", "c..", "t: e:: -x", "a? b? c.. t:?", "s t", "swallow", "e:: -swallow"]:
            self.check(Swallow(), text, "z! " + text)

    def test_by_place(self):
        for text, expected in [("a b! c? d..", "a! b! c!? d.."), ("", ""), ("e:: -x", ""), ("a t:?", "a!"),
                               ("a t:", None), ("a t:? u: e::", None), ("c.. e::", "c.."), ("a? e:: -x", "a!?")]:
            self.check(ByPlace(), text, expected)

    def test_by_name(self):
        for text, expected in [("a b? c.. t:", "a: b:? t:"), ("", ""), ("a!", None), ("a!? b", "b:"), ("a b! c", None),
                               ("a!? b e:: -x", "b: e:: -x"), ("c..", ""), ("a! e::", None), ("-x", "")]:
            self.check(ByName(), text, expected)

    def test_small_forms(self):
        """Each cover over each sort of small forms, held against all small calls."""
        covers = small_covers()
        calls = [call(many, " ".join(names)) for many in range(5) for count in range(6)
                 for names in itertools.combinations("abtxy", count)]
        calls += [call(many, names) for many in range(2) for names in ["a a", "x y x", "y y"]]
        nones = 0
        for number, made in enumerate(small_forms()):
            # With a step that has no divisor with the rounds of the forms, each cover meets each part of a form.
            for cover in covers[number % 5::5]:
                told = cover.over(made)
                self.check_calls(cover, made, told, calls)
                if told is None:
                    nones += 1
                else:
                    self.check_bounds(cover, made, told)
                    self.assertIs(comes_through(cover, made, behind([], mends(told, []))), True)
        self.assertGreater(nones, 300)

    def test_great_forms(self):
        dice = random.Random(25)
        told_forms = 0
        for turn in range(400):
            made = chance_form(dice)
            parameters, bars = made.told()
            pool = [told[1] for told in parameters] + bars[:3] + ["zz", "zy"]
            one, other = dice.choice(pool), dice.choice(pool)
            cover = dice.choice([Ahead(0), With(one, 0), Spare(one, 0), Without(one), Exchange(one, other), Swallow(),
                                 ByPlace(), ByName()])
            told = cover.over(made)
            if told is not None:
                told_forms += 1
                self.check_bounds(cover, made, told)
                self.check_close_calls(dice, cover, made, told, [one, other])
            self.assertEqual(made.told(), (parameters, bars))
        self.assertGreater(told_forms, 150)

    def check_close_calls(self, dice, cover, made, told, own):
        for step in range(6):
            names = [name for name in chance_names(dice, made, False) if name not in own] + own[:step % 3]
            asked = call(dice.randrange(8), " ".join(dict.fromkeys(names)))
            changes = mends(told, asked)
            close = [behind(asked, changes[:last]) for last in range(len(changes) + 1)]
            self.check_calls(cover, made, told, close + [asked + [("named", "yy", 0)]])

    def test_the_bounds(self):
        names = [letters(k) for k in range(60)]
        made = Form([Both("b" + name) for name in names[:23]] + [Bag("e")], names)
        covers = [Ahead(0), With("baa", 0), With("baw", 0), With("q", 0), Spare("baf", 0), Spare("q", 0),
                  Without("baa"), Without("q"), Without("aa"), Exchange("baa", "aa"), Exchange("q", "bab"), Swallow(),
                  ByName(), ByPlace()]
        for cover in covers:
            told = cover.over(made)
            self.check_bounds(cover, made, told)
            calls = [call(many, " ".join(chosen)) for many in [0, 1, 12, 22, 23, 24, 25]
                     for chosen in [(), ("q",), ("aa",), ("baa",), ["b" + name for name in names[:23]], ("zz", "yy"),
                                    ["b" + name for name in names[12:23]]]]
            self.check_calls(cover, made, told, calls + [behind(asked, mends(told, asked)) for asked in calls])

    def test_a_told_form_above_the_bounds_is_handed_in_again(self):
        names = [letters(k) for k in range(60)]
        made = Form([Seat("s")] + [Both("b" + name) for name in names[:22]] + [Tag("t")], names)
        first = Swallow().over(made)
        self.assertEqual(len(first.parameters()), 25)
        second = Without("q").over(first)
        self.assertEqual(len(second.parameters()), 26)
        third = Ahead(1).over(second)
        full = " ".join(["t"] + ["b" + name for name in names[:22]])
        for told, many, text, expected in [(first, 2, full, True), (first, 1, full, False), (second, 2, full, True),
                                           (second, 2, "q " + full, True), (third, 1, "q " + full, True),
                                           (third, 2, full, False), (third, 1, "aa " + full, False)]:
            self.assertIs(fits(told, call(many, text)), expected)
        barred = With("q", 0).over(Form([Bag("e")], names))
        self.assertEqual(sorted(barred.bars()), sorted(names + ["q"]))
        again = With("r", 0).over(barred)
        self.assertEqual([fits(again, call(0, name)) for name in ["q", "r", "aa", "s"]], [False, False, False, True])


class WhatStays(unittest.TestCase):
    def test_what_is_handed_in_stays(self):
        for cover in sorts():
            asked, made = copy.deepcopy(MIXED), form("a!? b? c.. t:? e:: -x")
            before = made.told()
            answer_of(cover.through, asked)
            self.assertEqual(asked, MIXED)
            cover.over(made)
            self.assertEqual(made.told(), before)

    def test_what_is_told_belongs_to_the_asker(self):
        made = form("a!? b? c.. t:? e:: -x")
        for cover, asked in [(Ahead(1), MIXED), (With("q", 1), MIXED), (Spare("q", 1), MIXED), (Spare("a", 1), MIXED),
                             (Without("a"), MIXED), (Exchange("a", "b"), MIXED), (Swallow(), MIXED),
                             (ByPlace(), [("row", [1, 2])]), (ByName(), [("book", [("a", 1)])])]:
            asked = copy.deepcopy(asked)
            told = cover.through(asked)
            kept = copy.deepcopy(told)
            told.clear()
            self.assertEqual(cover.through(asked), kept)
            over = cover.over(made)
            as_told = over.told()
            over.parameters().clear()
            over.bars().clear()
            over.told()[0].clear()
            self.assertEqual(over.told(), as_told)
            self.assertEqual(cover.over(made).told(), as_told)

    def test_lists_changed_behind(self):
        row, book = [1, 2], [("a", 3)]
        asked = [("row", row), ("book", book)]
        told = [cover.through(asked) for cover in [Ahead(0), With("q", 0), Swallow(), Without("z")]]
        kept = copy.deepcopy(told)
        row.clear()
        book.append(("b", 4))
        asked.clear()
        self.assertEqual(told, kept)

    def test_a_form_changed_behind(self):
        parameters, bars = [Both("a"), Tail("c"), Bag("e")], ["x"]
        made = Form(parameters, bars)
        told = With("q", 0).over(made)
        before = told.told()
        parameters.clear()
        bars.append("y")
        self.assertEqual(told.told(), before)
        self.assertEqual(With("q", 0).over(made).told(), before)


if __name__ == "__main__":
    unittest.main()
