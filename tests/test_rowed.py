"""[26], [27], [2], [3]: covers in a row, their form over a form, and covered functions."""

import copy
import itertools
import random
import unittest

from callbinds import errors
from callbinds.calls import call_of
from callbinds.covers import Ahead, ByName, ByPlace, Exchange, Spare, Swallow, With, Without
from callbinds.defaults import Anew, Once, Sum, Told
from callbinds.fitting import fits
from callbinds.forms import Form
from callbinds.functions import Function
from callbinds.mending import mends
from callbinds.parameters import Bag, Both
from callbinds.rowed import Covered, over_all, through_all
from callbinds.wells import Well
from helper import answer_of, behind, call, chance_form, chance_names, form, letters, small_forms, stands_as_a_form

MIXED = [("named", "a", 1), ("row", []), ("one", 2), ("book", [("b", 3)]), ("row", [5, 6]), ("book", [])]
LAID = [("one", 2), ("one", 5), ("one", 6), ("named", "a", 1), ("named", "b", 3)]


def chance_cover(dice, pool):
    one, other = dice.choice(pool), dice.choice(pool)
    kinds = [Ahead(0), With(one, 0), Spare(one, 0), Without(one), Exchange(one, other), Swallow()]
    # Those that refuse all things of a kind leave little behind them, so they come more seldom.
    return dice.choice(kinds * 3 + [ByPlace(), ByName()])


def comes_through(covers, made, asked):
    """Whether a call comes through all covers and fits the form then."""
    told = answer_of(through_all, covers, asked)
    return isinstance(told, list) and fits(made, told)


class Through(unittest.TestCase):
    def test_no_covers(self):
        self.assertEqual(through_all([], MIXED), LAID)
        self.assertEqual(through_all([], []), [])
        self.assertEqual(through_all([], [("row", []), ("book", [])]), [])
        self.assertEqual(through_all([], call(1, "a b a")), call(1, "a b a"))

    def test_the_outermost_first(self):
        self.assertEqual(through_all([Ahead(8), Ahead(9)], MIXED), [("one", 9), ("one", 8)] + LAID)
        self.assertEqual(through_all([With("y", 8), With("z", 9)], MIXED),
                         LAID + [("named", "y", 8), ("named", "z", 9)])
        self.assertEqual(through_all([Swallow(), Ahead(9)], MIXED), [("one", 9)] + LAID[1:])
        self.assertEqual(through_all([Ahead(9), Swallow()], MIXED), LAID)
        self.assertEqual(through_all([Without("a"), With("a", 9)], MIXED), LAID[:3] + [LAID[4], ("named", "a", 9)])
        self.assertEqual(through_all([Spare("a", 9), Exchange("a", "c")], call(1)), [("one", 7), ("named", "c", 9)])
        self.assertEqual(through_all([Exchange("a", "c"), Spare("a", 9)], MIXED),
                         LAID[:3] + [("named", "c", 1), ("named", "b", 3), ("named", "a", 9)])
        self.assertEqual(through_all([Without("a"), Without("b"), ByPlace()], MIXED), LAID[:3])
        self.assertEqual(through_all([Swallow(), Swallow(), Swallow(), ByName()], MIXED), LAID[3:])

    def test_six_covers(self):
        covers = [Swallow(), Exchange("a", "b"), Without("b"), Spare("b", 8), With("c", 9), Ahead(10)]
        self.assertEqual(through_all(covers, MIXED), call_of([10, 5, 6], [("a", 3), ("b", 8), ("c", 9)]))
        self.assertEqual(through_all([Ahead(k) for k in range(6)], []), call_of([5, 4, 3, 2, 1, 0], []))

    def check_refused(self, covers, asked, kind, number):
        self.assertEqual(answer_of(through_all, covers, asked), (kind, number))

    def test_the_first_that_refuses(self):
        self.check_refused([ByName(), ByPlace()], MIXED, errors.Over, 0)
        self.check_refused([ByPlace(), ByName()], MIXED, errors.Strange, 0)
        self.check_refused([ByName(), Swallow()], call(0, "a"), errors.Lacking, 0)
        self.check_refused([Swallow(), ByPlace(), ByName()], call(2), errors.Over, 0)
        self.check_refused([Swallow(), Swallow(), Swallow()], call(2), errors.Lacking, 0)

    def test_the_numbers_of_the_call_handed_on(self):
        self.check_refused([Ahead(0), ByPlace()], call(0, "a a"), errors.Doubled, 1)
        self.check_refused([Without("a"), ByPlace()], call(0, "a b"), errors.Strange, 0)
        self.check_refused([With("b", 0), Ahead(0)], call(2, "a b"), errors.Doubled, 2)
        self.check_refused([Without("a"), With("b", 0), Ahead(0)], call(2, "a b"), errors.Doubled, 1)
        self.check_refused([With("c", 0), With("a", 0), With("c", 1), ByName()], call(0, "a"), errors.Doubled, 2)
        self.check_refused([Without("a"), ByName()], call(1, "a"), errors.Over, 0)

    def test_a_name_twice_in_what_the_last_hands_on(self):
        self.assertEqual(through_all([With("a", 9)], call(0, "a")), [("named", "a", 40), ("named", "a", 9)])
        self.assertEqual(through_all([With("z", 1), With("z", 2)], []), [("named", "z", 1), ("named", "z", 2)])
        self.check_refused([With("z", 1), With("z", 2), Exchange("a", "b")], [], errors.Doubled, 1)

    def test_one_behind_the_other(self):
        dice = random.Random(26)
        for turn in range(300):
            covers = [chance_cover(dice, "abcq") for count in range(dice.randrange(7))]
            names = [dice.choice("abcq") for count in range(dice.randrange(4))]
            asked = call(dice.randrange(5), " ".join(names))
            expected = asked
            for cover in covers:
                if isinstance(expected, list):
                    expected = answer_of(cover.through, expected)
            self.assertEqual(answer_of(through_all, covers, asked), expected)


class Over(unittest.TestCase):
    def check(self, covers, made, calls):
        told = over_all(covers, made)
        for asked in calls:
            taken = told is not None and fits(told, asked)
            self.assertIs(taken, comes_through(covers, made, asked), (covers, made.told(), asked))
        if told is not None:
            self.assertIs(type(told), Form)
            self.assertTrue(stands_as_a_form(told), told.told())
            self.assertLessEqual(len(told.parameters()), len(made.parameters()) + len(covers))
            self.assertLessEqual(len(told.bars()), len(made.bars()) + len(covers))
            self.assertIs(comes_through(covers, made, behind([], mends(told, []))), True)
        return told

    def small_calls(self):
        return [call(many, " ".join(names)) for many in range(5) for count in range(4)
                for names in itertools.combinations("abtxy", count)] + [call(0, "a a"), call(2, "b y b")]

    def test_no_covers(self):
        for made in small_forms():
            told = over_all([], made)
            self.assertLessEqual(len(told.parameters()), len(made.parameters()))
            self.assertLessEqual(len(told.bars()), len(made.bars()))
        for made in itertools.islice(small_forms(), 0, None, 11):
            self.check([], made, self.small_calls())
        names = [letters(k) for k in range(60)]
        made = Form([Both("b" + name) for name in names[:24]], names)
        self.assertEqual(over_all([], made).told(), made.told())

    def test_told_by_hand(self):
        calls = [call(many, " ".join(names)) for many in range(6) for count in range(4)
                 for names in itertools.combinations("abcdqx", count)]
        for covers, text, expected in [
                ([Ahead(1), Ahead(2)], "a b c", "c"), ([Ahead(1), Swallow()], "a b", "a b"),
                ([Swallow(), Ahead(1)], "a! b", "z! b"), ([Without("b"), With("b", 1)], "a b c", "a c: b:?"),
                ([With("b", 1), Without("b")], "a b c", "a b! c"), ([Exchange("a", "q"), With("a", 1)], "a b", "b:"),
                ([ByPlace(), Spare("c", 1)], "a b c", "a! b!"), ([ByName(), Ahead(1)], "a b c", "b: c:"),
                ([With("q", 1), With("c", 2)], "a c e::", "a e:: -q -c"), ([Exchange("a", "b")] * 2, "a b", "a b"),
                ([ByName(), ByPlace()], "a? c..", ""), ([Swallow()] * 6, "", "z! y! x! w! v! u!")]:
            made = form(text)
            told = self.check(covers, made, calls)
            for asked in calls:
                self.assertIs(fits(told, asked), fits(form(expected), asked), (text, expected, asked))

    def test_none_as_soon_as_one_is(self):
        for covers, text in [([Ahead(1), Ahead(2)], "a"), ([Swallow(), Ahead(1)], ""), ([ByName(), ByPlace()], "t:"),
                             ([ByPlace(), ByName(), Swallow()], "a b"), ([Without("q"), With("q", 1)], "a -q"),
                             ([With("a", 1), With("a", 2)], "a e::"), ([Ahead(0)] * 5 + [ByName()], "a! b")]:
            self.assertIsNone(self.check(covers, form(text), self.small_calls()))

    def test_small_forms(self):
        dice = random.Random(27)
        calls = self.small_calls()
        nones = 0
        for number, made in enumerate(small_forms()):
            covers = [chance_cover(dice, "abtxy") for count in range(number % 7)]
            nones += self.check(covers, made, calls) is None
        self.assertGreater(nones, 50)
        self.assertLess(nones, 400)

    def test_great_forms(self):
        dice = random.Random(28)
        told_forms = 0
        for turn in range(250):
            made = chance_form(dice)
            parameters, bars = made.told()
            pool = [told[1] for told in parameters] + bars[:2] + ["zz"]
            covers = [chance_cover(dice, pool) for count in range(1 + turn % 6)]
            told = over_all(covers, made)
            if told is not None:
                told_forms += 1
                calls = [call(dice.randrange(9), " ".join(chance_names(dice, made, False))) for step in range(4)]
                for asked in list(calls):
                    changes = mends(told, asked)
                    calls.extend([behind(asked, changes[:last]) for last in range(len(changes) + 1)])
                self.check(covers, made, calls)
            self.assertEqual(made.told(), (parameters, bars))
        self.assertGreater(told_forms, 80)

    def test_above_the_bounds(self):
        names = [letters(k) for k in range(60)]
        made = Form([Both("b" + name) for name in names[:23]] + [Bag("e")], names)
        for covers in [[Swallow()] * 6, [Without("z" + name) for name in names[:6]],
                       [With("z" + name, 0) for name in names[:6]], [Without("b" + name) for name in names[:6]]]:
            own = [cover.name for cover in covers if not isinstance(cover, Swallow)]
            calls = [call(many, " ".join(chosen)) for many in [0, 6, 17, 23, 28, 29, 30]
                     for chosen in [(), own, own[1:], ("q",), ["b" + name for name in names[17:23]]]]
            told = self.check(covers, made, calls)
            self.check([Ahead(0)], told, calls)


class WhatStays(unittest.TestCase):
    def test_what_is_handed_in_stays(self):
        for covers in [[], [Ahead(1), With("q", 2)], [Swallow(), Without("a"), Spare("b", 1)]]:
            asked, made, kept = copy.deepcopy(MIXED), form("a? b? c.. e:: -x"), list(covers)
            before = made.told()
            through_all(covers, asked)
            over_all(covers, made)
            self.assertEqual((asked, made.told(), covers), (MIXED, before, kept))

    def test_what_is_told_belongs_to_the_asker(self):
        for covers in [[], [Ahead(1)], [Without("a"), With("a", 2)]]:
            asked, made = copy.deepcopy(MIXED), form("a? b? c.. e:: -x")
            told, over = through_all(covers, asked), over_all(covers, made)
            kept, as_told = list(told), over.told()
            told.clear()
            over.parameters().clear()
            over.told()[1].append("q")
            self.assertEqual(through_all(covers, asked), kept)
            self.assertEqual(over_all(covers, made).told(), as_told)

    def test_a_call_without_covers_is_another_list(self):
        asked = call(2, "a")
        told = through_all([], asked)
        told.append(("one", 1))
        self.assertEqual(asked, call(2, "a"))
        asked.clear()
        self.assertEqual(len(told), 4)


class Answers(unittest.TestCase):
    def test_the_values_for_the_call_that_comes_through(self):
        function = Function(form("a! b? c.. t:? e::"), [Told(50), Sum(1, 2, 1)], Well())
        for covers, asked, expected in [
                ([], [("row", [2, 5]), ("named", "y", 3), ("one", 6)], [2, 5, [6], 11, [("y", 3)]]),
                ([Ahead(9)], [("row", [4, 5])], [9, 4, [5], 9, []]),
                ([With("t", 9), Swallow()], [("row", [4, 5])], [5, 50, [], 9, []]),
                ([Exchange("t", "y"), Spare("z", 8)], [("named", "y", 1), ("one", 3)], [3, 50, [], 1, [("z", 8)]]),
                ([Without("t")], [("named", "t", 1), ("one", 3)], [3, 50, [], 101, []])]:
            self.assertEqual(Covered(covers, function).answer(asked), expected)

    def test_as_the_function_itself(self):
        dice = random.Random(29)
        for turn in range(400):
            made = form(dice.choice(["a! b? c.. t:? e:: -x", "a? b", "a! b? t:?", "c.. e::", "a!? b! t:? u:"]))
            free = [at for at, told in enumerate(made.told()[0]) if len(told) == 3 and told[2]]
            defaults = [dice.choice([Told(3), Once(), Anew()]) for at in free]
            covers = [chance_cover(dice, "abtux") for count in range(turn % 7)]
            names = " ".join(dict.fromkeys(dice.choice("abtux") for count in range(dice.randrange(3))))
            asked = call(dice.randrange(4), names)
            wells = Well(100), Well(100)
            first, second = [Function(made, defaults, well) for well in wells]
            come = answer_of(through_all, covers, asked)
            expected = answer_of(first.answer, come) if isinstance(come, list) else come
            self.assertEqual(answer_of(Covered(covers, second).answer, asked), expected)
            self.assertEqual(wells[0].ahead(), wells[1].ahead())

    def test_what_the_covers_refuse_then_what_the_function_refuses(self):
        function = Function(form("a b t: -x"), [], Well())
        for covers, asked, expected in [
                ([Swallow()], [], (errors.Lacking, 0)), ([ByName()], call(5, "x"), (errors.Over, 0)),
                ([ByPlace()], call(0, "x"), (errors.Strange, 0)), ([Ahead(0)], call(0, "a q q"), (errors.Doubled, 2)),
                ([Ahead(0)], call(2, "t"), (errors.Over, 2)), ([Ahead(0)], call(0, "b a t"), (errors.Again, 1)),
                ([With("t", 0)], call(1, "b t"), (errors.Doubled, 2)),
                ([With("x", 0)], call(2, "t"), (errors.Barred, 1)),
                ([Without("a"), Exchange("t", "u")], call(2, "a t"), (errors.Strange, 0)),
                ([Swallow()], call(2, "t"), (errors.Lacking, 1)), ([], call(2, "t t"), (errors.Doubled, 1)),
                ([Swallow(), Without("t")], call(3, "t"), (errors.Lacking, 2))]:
            self.assertEqual(answer_of(Covered(covers, function).answer, asked), expected)

    def test_what_is_refused_draws_nothing(self):
        well = Well(5)
        function = Function(form("a? b? t:"), [Anew(), Once()], well)
        self.assertEqual(well.ahead(), 6)
        covered = Covered([Swallow()], function)
        self.assertEqual(well.ahead(), 6)
        for asked in [[], call(1), call(4, "t"), call(1, "t t"), call(1, "t q")]:
            with self.assertRaises(errors.Misfit):
                covered.answer(asked)
            self.assertEqual(well.ahead(), 6)
        self.assertEqual(covered.answer(call(1, "t")), [6, 5, 40])
        self.assertEqual(covered.answer(call(1, "t")), [7, 5, 40])
        self.assertEqual(well.ahead(), 8)

    def test_the_list_of_covers_changed_behind(self):
        covers = [Ahead(9)]
        covered = Covered(covers, Function(form("c.."), [], Well()))
        covers.append(Swallow())
        self.assertEqual(covered.answer(call(1)), [[9, 7]])
        covers.clear()
        self.assertEqual(covered.answer(call(1)), [[9, 7]])

    def test_what_is_told_belongs_to_the_asker(self):
        asked = [("row", [1, 2]), ("book", [("y", 3)])]
        covered = Covered([With("z", 4)], Function(form("c.. e::"), [], Well()))
        told = covered.answer(asked)
        self.assertEqual(told, [[1, 2], [("y", 3), ("z", 4)]])
        told[0].clear()
        told[1].append(("q", 1))
        self.assertEqual(covered.answer(asked), [[1, 2], [("y", 3), ("z", 4)]])
        self.assertEqual(asked, [("row", [1, 2]), ("book", [("y", 3)])])

    def test_six_covers(self):
        covered = Covered([Ahead(k) for k in range(6)], Function(form("a! b! c.."), [], Well()))
        self.assertEqual(covered.answer(call(1)), [5, 4, [3, 2, 1, 0, 7]])


if __name__ == "__main__":
    unittest.main()
