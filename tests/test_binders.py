"""[18], [19], [20], [2]: moves done on calls, and the binder of a form."""

import copy
import itertools
import random
import unittest

from callbinds import errors
from callbinds.binders import binder, bound
from callbinds.calls import call_of
from callbinds.fitting import misfits, paper
from callbinds.forms import Form
from callbinds.mending import mends
from callbinds.parameters import Bag, Both, Seat, Tag, Tail
from helper import CLASSES, answer_of, behind, call, chance_form, chance_names, form, letters, small_forms, small_names

KINDS = {"take": 2, "gather": 2, "end": 1, "door": 3, "bar": 2, "names": None, "need": 2, "free": 2}


def reckoned(many, moves, things, names):
    """What [19] tells, word for word: a list of entries, or a class and a number."""
    for j in range(len(names)):
        if names[j] in names[:j]:
            return (errors.Doubled, j)
    has, used_places, used_names, doors, bars = {}, set(), set(), {}, set()
    for word, *rest in moves:
        left = [i for i in range(things) if i not in used_places]
        q = rest[-1] if rest and word != "bar" else None
        if word == "take" and q not in has and left:
            used_places.add(left[0])
            has[q] = ("place", left[0])
        if word == "gather" and q not in has:
            used_places.update(left)
            has[q] = ("places", left)
        if word == "end" and left:
            return (errors.Over, left[0])
        if word == "door":
            doors[rest[0]] = q
        if word == "bar":
            bars.add(rest[0])
        if word == "names":
            here = False
            for j in [j for j in range(len(names)) if j not in used_names]:
                if names[j] in bars:
                    return (errors.Barred, j)
                if names[j] in doors and doors[names[j]] in has:
                    return (errors.Again, j)
                if names[j] in doors:
                    has[doors[names[j]]] = ("name", j)
                elif q is not None and (q not in has or here):
                    has[q] = ("names", has[q][1] + [j] if here else [j])
                    here = True
                else:
                    return (errors.Strange, j)
                used_names.add(j)
            if q is not None and q not in has:
                has[q] = ("names", [])
        if word == "need" and q not in has:
            return (errors.Lacking, q)
        if word == "free" and q not in has:
            has[q] = ("free",)
    return [has.get(p) for p in range(many)]


class Moves(unittest.TestCase):
    def check(self, many, moves, things, names, expected):
        """Expected is the list of entries, or a class and a number."""
        asked = call(things, names)
        self.assertEqual(answer_of(bound, (many, moves), asked), expected)
        self.assertEqual(reckoned(many, moves, things, names.split()), expected)

    def test_without_moves(self):
        self.check(0, [], 0, "", [])
        self.check(3, [], 0, "", [None, None, None])
        self.check(2, [], 3, "a b", [None, None])
        self.check(0, [], 2, "a", [])

    def test_doubled_is_ahead_of_all(self):
        self.check(0, [], 0, "a a", (errors.Doubled, 1))
        self.check(1, [("end",), ("need", 0)], 4, "a b c b a", (errors.Doubled, 3))
        self.check(1, [("bar", "a"), ("names",)], 0, "a a a", (errors.Doubled, 1))
        self.check(1, [("names", 0)], 0, "a b a", (errors.Doubled, 2))

    def test_take(self):
        self.check(2, [("take", 0)], 1, "", [("place", 0), None])
        self.check(2, [("take", 1)], 1, "", [None, ("place", 0)])
        self.check(2, [("take", 1), ("take", 0)], 2, "", [("place", 1), ("place", 0)])
        self.check(2, [("take", 0), ("take", 1)], 1, "", [("place", 0), None])
        self.check(1, [("take", 0)], 0, "", [None])
        self.check(1, [("take", 0)], 3, "a", [("place", 0)])

    def test_take_where_there_is_an_entry(self):
        self.check(2, [("take", 0), ("take", 0), ("take", 1)], 3, "", [("place", 0), ("place", 1)])
        self.check(2, [("free", 0), ("take", 0), ("take", 1)], 2, "", [("free",), ("place", 0)])
        self.check(1, [("gather", 0), ("take", 0)], 0, "", [("places", [])])
        self.check(2, [("door", "a", 0), ("names",), ("take", 0), ("take", 1)], 1, "a", [("name", 0), ("place", 0)])
        self.check(2, [("names", 0), ("take", 0), ("take", 1)], 1, "", [("names", []), ("place", 0)])

    def test_gather(self):
        self.check(1, [("gather", 0)], 0, "", [("places", [])])
        self.check(1, [("gather", 0)], 3, "", [("places", [0, 1, 2])])
        self.check(2, [("take", 1), ("gather", 0)], 3, "", [("places", [1, 2]), ("place", 0)])
        self.check(2, [("gather", 0), ("gather", 1)], 3, "", [("places", [0, 1, 2]), ("places", [])])
        self.check(2, [("gather", 0), ("take", 1)], 3, "", [("places", [0, 1, 2]), None])

    def test_gather_where_there_is_an_entry(self):
        self.check(2, [("take", 0), ("gather", 0), ("gather", 1)], 3, "", [("place", 0), ("places", [1, 2])])
        self.check(1, [("free", 0), ("gather", 0), ("end",)], 3, "", (errors.Over, 0))
        self.check(2, [("gather", 0), ("gather", 0), ("take", 1)], 2, "", [("places", [0, 1]), None])
        self.check(2, [("names", 0), ("gather", 0), ("gather", 1)], 2, "", [("names", []), ("places", [0, 1])])

    def test_end(self):
        self.check(0, [("end",)], 0, "a", [])
        self.check(0, [("end",)], 1, "", (errors.Over, 0))
        self.check(2, [("take", 0), ("take", 1), ("end",)], 4, "", (errors.Over, 2))
        self.check(2, [("take", 0), ("take", 1), ("end",)], 2, "", [("place", 0), ("place", 1)])
        self.check(1, [("gather", 0), ("end",)], 5, "", [("places", [0, 1, 2, 3, 4])])
        self.check(1, [("end",), ("take", 0)], 1, "", (errors.Over, 0))
        self.check(1, [("take", 0), ("end",), ("end",)], 1, "", [("place", 0)])

    def test_door(self):
        self.check(2, [("door", "a", 1), ("names",)], 0, "a", [None, ("name", 0)])
        self.check(2, [("door", "a", 1), ("door", "b", 0), ("names",)], 0, "b a", [("name", 0), ("name", 1)])
        self.check(2, [("door", "a", 1)], 0, "a", [None, None])
        self.check(2, [("names", 0), ("door", "a", 1)], 0, "a", [("names", [0]), None])

    def test_a_name_led_elsewhere(self):
        self.check(2, [("door", "a", 0), ("door", "a", 1), ("names",)], 0, "a", [None, ("name", 0)])
        self.check(2, [("take", 0), ("door", "a", 0), ("door", "a", 1), ("names",)], 1, "a",
                   [("place", 0), ("name", 0)])
        self.check(2, [("door", "a", 0), ("door", "a", 1), ("door", "a", 0), ("names",)], 0, "a", [("name", 0), None])

    def test_two_names_lead_to_one(self):
        self.check(1, [("door", "a", 0), ("door", "b", 0), ("names",)], 0, "b", [("name", 0)])
        self.check(1, [("door", "a", 0), ("door", "b", 0), ("names",)], 0, "b a", (errors.Again, 1))

    def test_bar(self):
        self.check(1, [("bar", "a"), ("names", 0)], 0, "b a", (errors.Barred, 1))
        self.check(1, [("bar", "a"), ("names", 0)], 0, "b", [("names", [0])])
        self.check(1, [("bar", "a"), ("bar", "b"), ("bar", "a"), ("names", 0)], 0, "c b", (errors.Barred, 1))
        self.check(1, [("bar", "a")], 0, "a", [None])
        self.check(1, [("names", 0), ("bar", "a"), ("names", 0)], 0, "a", [("names", [0])])

    def test_a_bar_and_a_door(self):
        for moves in itertools.permutations([("bar", "a"), ("door", "a", 0)]):
            self.check(2, list(moves) + [("names", 1)], 0, "b a", (errors.Barred, 1))
            self.check(2, list(moves) + [("names", 1)], 0, "b", [None, ("names", [0])])
            self.check(2, [("take", 0)] + list(moves) + [("names",)], 1, "a", (errors.Barred, 0))

    def test_names_without_q(self):
        self.check(1, [("names",)], 0, "", [None])
        self.check(1, [("names",)], 0, "a", (errors.Strange, 0))
        self.check(1, [("door", "a", 0), ("names",)], 0, "a b", (errors.Strange, 1))
        self.check(1, [("door", "a", 0), ("names",)], 0, "b a", (errors.Strange, 0))
        self.check(1, [("names",), ("take", 0)], 1, "", [("place", 0)])

    def test_names_with_q(self):
        self.check(2, [("names", 1)], 0, "b a c", [None, ("names", [0, 1, 2])])
        self.check(2, [("door", "a", 0), ("names", 1)], 0, "b a c", [("name", 1), ("names", [0, 2])])
        self.check(2, [("names", 1)], 0, "", [None, ("names", [])])
        self.check(2, [("door", "a", 0), ("names", 1)], 0, "a", [("name", 0), ("names", [])])

    def test_names_with_q_that_has_an_entry(self):
        self.check(1, [("take", 0), ("names", 0)], 1, "a", (errors.Strange, 0))
        self.check(1, [("take", 0), ("names", 0)], 1, "", [("place", 0)])
        self.check(1, [("free", 0), ("names", 0)], 0, "", [("free",)])
        self.check(1, [("free", 0), ("names", 0)], 0, "a", (errors.Strange, 0))
        self.check(1, [("gather", 0), ("names", 0)], 0, "a", (errors.Strange, 0))
        self.check(2, [("take", 0), ("door", "a", 1), ("names", 0)], 1, "a b", (errors.Strange, 1))

    def test_names_twice(self):
        self.check(1, [("names", 0), ("names", 0)], 0, "a b", [("names", [0, 1])])
        self.check(2, [("names", 0), ("names", 1)], 0, "a b", [("names", [0, 1]), ("names", [])])
        self.check(2, [("names", 0), ("names",)], 0, "a", [("names", [0]), None])
        self.check(1, [("names",), ("names", 0)], 0, "", [("names", [])])
        self.check(2, [("door", "a", 1), ("names", 0), ("take", 1), ("names", 1)], 1, "a", [("names", []), ("name", 0)])

    def test_a_door_to_the_q_of_names(self):
        self.check(1, [("door", "a", 0), ("names", 0)], 0, "a", [("name", 0)])
        self.check(1, [("door", "a", 0), ("names", 0)], 0, "a b", (errors.Strange, 1))
        self.check(1, [("door", "a", 0), ("names", 0)], 0, "b a", (errors.Again, 1))
        self.check(1, [("door", "a", 0), ("names", 0)], 0, "b c", [("names", [0, 1])])

    def test_again(self):
        self.check(1, [("take", 0), ("door", "a", 0), ("names",)], 1, "a", (errors.Again, 0))
        self.check(1, [("take", 0), ("door", "a", 0), ("names",)], 0, "a", [("name", 0)])
        self.check(1, [("free", 0), ("door", "a", 0), ("names",)], 0, "a", (errors.Again, 0))
        self.check(2, [("gather", 0), ("door", "a", 0), ("names", 1)], 0, "b a", (errors.Again, 1))

    def test_names_are_refused_in_their_order(self):
        moves = [("take", 0), ("door", "a", 0), ("bar", "b"), ("names",)]
        for names in itertools.permutations(["a", "b", "c"]):
            kind = {"a": errors.Again, "b": errors.Barred, "c": errors.Strange}[names[0]]
            self.check(1, moves, 1, " ".join(names), (kind, 0))

    def test_need(self):
        self.check(2, [("need", 1)], 0, "", (errors.Lacking, 1))
        self.check(2, [("take", 1), ("need", 1), ("need", 0)], 1, "", (errors.Lacking, 0))
        self.check(1, [("take", 0), ("need", 0)], 1, "", [("place", 0)])
        self.check(1, [("door", "a", 0), ("names",), ("need", 0)], 0, "a", [("name", 0)])
        self.check(1, [("need", 0), ("take", 0)], 1, "", (errors.Lacking, 0))
        for first in [("gather", 0), ("names", 0), ("free", 0)]:
            self.assertEqual(len(bound((1, [first, ("need", 0)]), [])), 1)

    def test_free(self):
        self.check(2, [("free", 1)], 0, "", [None, ("free",)])
        self.check(1, [("take", 0), ("free", 0)], 1, "", [("place", 0)])
        self.check(1, [("gather", 0), ("free", 0)], 0, "", [("places", [])])
        self.check(1, [("names", 0), ("free", 0)], 0, "", [("names", [])])
        self.check(1, [("free", 0), ("free", 0), ("need", 0)], 0, "", [("free",)])

    def test_all_short_lists_of_moves(self):
        moves = [("take", 0), ("take", 1), ("gather", 0), ("end",), ("door", "a", 0), ("door", "a", 1),
                 ("door", "b", 0), ("bar", "a"), ("names",), ("names", 0), ("names", 1), ("need", 0), ("free", 0)]
        calls = [(0, ""), (1, ""), (2, "a"), (1, "a b"), (0, "b a"), (3, "c a")]
        for row in itertools.product(moves, repeat=3):
            for things, names in calls:
                self.check(2, list(row), things, names, reckoned(2, list(row), things, names.split()))

    def test_long_lists_of_moves(self):
        dice = random.Random(19)
        refused = 0
        for turn in range(4000):
            many = dice.randrange(1, 6)
            moves = [self.chance_move(dice, many) for step in range(dice.randrange(12))]
            names = dice.sample("abcd", dice.randrange(4))
            expected = reckoned(many, moves, turn % 5, names)
            self.assertEqual(answer_of(bound, (many, moves), call(turn % 5, " ".join(names))), expected)
            refused += isinstance(expected, tuple)
        self.assertTrue(500 < refused < 3500)

    def chance_move(self, dice, many):
        q, name = dice.randrange(many), dice.choice("abcd")
        return dice.choice([("take", q), ("take", q), ("gather", q), ("end",), ("door", name, q), ("door", name, q),
                            ("bar", name), ("names",), ("names", q), ("need", q), ("free", q)])

    def test_great_calls(self):
        names = [letters(k) for k in range(60)]
        asked = call_of(list(range(60)), [(name, 0) for name in names])
        self.assertEqual(bound((2, [("gather", 0), ("names", 1)]), asked),
                         [("places", list(range(60))), ("names", list(range(60)))])
        moves = [("door", name, 59 - k) for k, name in enumerate(names)] + [("names",)]
        self.assertEqual(bound((60, moves), asked), [("name", 59 - k) for k in range(60)])
        moves = [("take", k) for k in range(59)] + [("bar", "c" + name) for name in names] + [("end",)]
        self.assertEqual(answer_of(bound, (60, moves), asked), (errors.Over, 59))


class OfAForm(unittest.TestCase):
    def check_tuple(self, made):
        told = binder(made)
        self.assertIs(type(told), tuple)
        many, moves = told
        self.assertEqual(many, len(made.parameters()))
        self.assertIs(type(moves), list)
        self.assertLessEqual(len(moves), 3 * many + len(made.bars()) + 2)
        for move in moves:
            self.assertIs(type(move), tuple)
            self.assertIn(move[0], KINDS)
            self.assertIn(len(move), [1, 2] if move[0] == "names" else [KINDS[move[0]]])
            if move[0] in ("door", "bar"):
                self.assertIs(type(move[1]), str)
            if move[0] not in ("end", "bar") and len(move) > 1:
                self.assertIs(type(move[-1]), int)
                self.assertTrue(0 <= move[-1] < many)
        return told

    def check(self, made, told, asked):
        expected = answer_of(paper, made, asked)
        found = misfits(made, asked)
        if found:
            self.assertEqual(expected, (CLASSES[found[0][0]], found[0][1]))
        self.assertEqual(answer_of(bound, told, asked), expected, (made.told(), asked))

    def test_each_sort(self):
        for text in ["", "-x -y", "a!", "a!?", "a", "a?", "a..", "a:", "a:?", "a::", "a! b c.. d: e:? f:: -x",
                     "a!? b? c! d e: -x", "a! a a.. b: a:: -x"]:
            made = form(text)
            told = self.check_tuple(made)
            for many, names in itertools.product(range(5), ["", "a", "b a", "x", "e d", "q d", "d d", "b x d q"]):
                self.check(made, told, call(many, names))

    def test_each_misfit(self):
        made = form("a! b c: d:? -x")
        told = self.check_tuple(made)
        for many, names, expected in [
                (4, "z b x z", (errors.Doubled, 3)), (4, "z b x", (errors.Over, 2)), (2, "z b x", (errors.Strange, 0)),
                (2, "b x z", (errors.Again, 0)), (2, "x b z", (errors.Barred, 0)), (0, "d", (errors.Lacking, 0)),
                (1, "b", (errors.Lacking, 2)), (2, "c", [("place", 0), ("place", 1), ("name", 0), ("free",)])]:
            self.assertEqual(answer_of(bound, told, call(many, names)), expected)

    def test_small_forms_and_calls(self):
        calls = [call(many, " ".join(names)) for many in range(4) for names in small_names()]
        for number, made in enumerate(small_forms()):
            told = self.check_tuple(made)
            for asked in calls[number % 3::3]:
                self.check(made, told, asked)

    def test_great_forms(self):
        dice = random.Random(20)
        for turn in range(800):
            made = chance_form(dice)
            told = self.check_tuple(made)
            names = chance_names(dice, made, turn % 5 == 0)
            many = dice.choice([0, made.places(), dice.randrange(15), 30])
            asked = call(many, " ".join(names))
            self.check(made, told, asked)
            changes = mends(made, asked)
            for last in range(max(len(changes) - 3, 0), len(changes) + 1):
                self.check(made, told, behind(asked, changes[:last]))

    def test_the_bounds(self):
        names = [letters(k) for k in range(60)]
        for made in [Form([Both("b" + name) for name in names[:24]], names), Form([], names),
                     Form([Seat("a")] * 11 + [Tail("a")] + [Tag("z" + name) for name in names[:11]] + [Bag("a")], names)]:
            told = self.check_tuple(made)
            for many, asked in itertools.product([0, 11, 24, 60], [[], names, ["b" + name for name in names],
                                                                   ["z" + name for name in names]]):
                self.check(made, told, call(many, " ".join(asked)))


class WhatStays(unittest.TestCase):
    def test_binder_and_call_stay(self):
        moves = [("take", 0), ("gather", 1), ("door", "a", 2), ("bar", "x"), ("names", 3), ("need", 0), ("free", 2)]
        given = (4, moves)
        asked = [("row", [1, 2, 3]), ("book", [("y", 1), ("a", 2)])]
        before = copy.deepcopy((given, asked))
        first = bound(given, asked)
        self.assertEqual((given, asked), before)
        kept = copy.deepcopy(first)
        self.assertEqual(kept, [("place", 0), ("places", [1, 2]), ("name", 1), ("names", [0])])
        first[1][1].append(99)
        first[3][1].clear()
        first.pop()
        self.assertEqual(bound(given, asked), kept)
        self.assertEqual((given, asked), before)

    def test_what_is_refused_leaves_nothing_behind(self):
        given = (2, [("door", "a", 0), ("names", 1), ("end",)])
        self.assertEqual(answer_of(bound, given, call(1, "a")), (errors.Over, 0))
        self.assertEqual(bound(given, call(0, "b")), [None, ("names", [0])])
        self.assertEqual(bound(given, []), [None, ("names", [])])

    def test_a_told_binder_belongs_to_the_asker(self):
        made = form("a! b c.. d: e:: -x")
        first = binder(made)
        kept = copy.deepcopy(first)
        first[1].clear()
        self.assertEqual(binder(made), kept)
        self.assertEqual(made.told(), form("a! b c.. d: e:: -x").told())

    def test_moves_changed_behind(self):
        moves = [("gather", 0)]
        told = bound((1, moves), call(2))
        moves.append(("end",))
        self.assertEqual(told, [("places", [0, 1])])


if __name__ == "__main__":
    unittest.main()
