"""[28], [29], [2]: the table of a form, and whether two forms take the same calls."""

import itertools
import random
import unittest

from callbinds.covers import Exchange, Spare, Swallow, Without
from callbinds.fitting import fits
from callbinds.forms import Form
from callbinds.parameters import Bag, Both, Seat, Tag, Tail
from callbinds.parts import Part
from callbinds.rowed import over_all
from callbinds.tables import same_calls, table
from helper import answer_of, call, chance_form, form, letters, small_forms


def subsets(pool):
    return [names for count in range(len(pool) + 1) for names in itertools.combinations(pool, count)]


def taken(made, pool, most):
    """The tuples (many, names), of the names of a pool, that fit a form."""
    return [(many, names) for many in range(most + 1) for names in subsets(pool)
            if fits(made, call(many, " ".join(names)))]


def reckoned_row(fitting, pool, strange):
    """The row that the fitting tuples of names tell; the strange name is one that the form hasn't."""
    if not fitting:
        return None
    some = {name for names in fitting for name in names}
    needed = [name for name in pool if all(name in names for names in fitting)]
    if strange in some:
        return (needed, True, [name for name in pool if name not in some])
    return (needed, False, sorted(some))


def reckoned_table(made, pool, strange):
    """The table by whether calls fit alone; pool is sorted and has all names of the form."""
    places = len([told for told in made.told()[0] if told[0] in ("seat", "both")])
    found = taken(made, pool, places + 2)
    rows = [reckoned_row([names for many, names in found if many == k], pool, strange) for k in range(places + 3)]
    goes_on = rows[places + 1] is not None
    rows = rows[:places + 1]
    while goes_on and len(rows) > 1 and rows[-2] == rows[-1]:
        rows = rows[:-1]
    return (rows, goes_on)


class Tables(unittest.TestCase):
    def check(self, text, rows, goes_on):
        self.assertEqual(table(form(text)), (rows, goes_on), text)

    def test_no_parameters(self):
        self.check("", [([], False, [])], False)
        self.check("-x", [([], False, [])], False)
        self.check("c..", [([], False, [])], True)
        self.check("e::", [([], True, [])], False)
        self.check("c.. e:: -x -b", [([], True, ["b", "x"])], True)

    def test_seats(self):
        self.check("a! b!", [None, None, ([], False, [])], False)
        self.check("a! b!?", [None, ([], False, []), ([], False, [])], False)
        self.check("a!? b!", [None, None, ([], False, [])], False)
        self.check("a!? b!?", [([], False, [])] * 3, False)

    def test_boths(self):
        self.check("b a", [(["a", "b"], False, ["a", "b"]), (["a"], False, ["a"]), ([], False, [])], False)
        self.check("b? a", [(["a"], False, ["a", "b"]), (["a"], False, ["a"]), ([], False, [])], False)
        self.check("b! a", [None, (["a"], False, ["a"]), ([], False, [])], False)
        self.check("b a!", [None, None, ([], False, [])], False)
        self.check("b? a!?", [([], False, ["b"]), ([], False, []), ([], False, [])], False)

    def test_tags(self):
        self.check("z: c:? m:", [(["m", "z"], False, ["c", "m", "z"])], False)
        self.check("b t:", [(["b", "t"], False, ["b", "t"]), (["t"], False, ["t"])], False)

    def test_bars(self):
        self.check("a -x -b", [(["a"], False, ["a"]), ([], False, [])], False)
        self.check("t: e:: -x -b", [(["t"], True, ["b", "x"])], False)

    def test_bags(self):
        self.check("b a? e:: -c", [(["b"], True, ["c"]), ([], True, ["b", "c"]), ([], True, ["a", "b", "c"])], False)
        self.check("b! a e::", [None, (["a"], True, []), ([], True, ["a"])], False)

    def test_tails_leave_like_last_rows_out(self):
        self.check("a! c..", [None, ([], False, [])], True)
        self.check("a!? c..", [([], False, [])], True)
        self.check("a!? b!? d!? c..", [([], False, [])], True)
        self.check("a? b!? d!? c..", [([], False, ["a"]), ([], False, [])], True)
        self.check("a!? b? d!? c.. t:", [(["t"], False, ["b", "t"]), (["t"], False, ["b", "t"]), (["t"], False, ["t"])],
                   True)
        self.check("a! b!? c.. e::", [None, ([], True, [])], True)
        self.check("a b!? c.. e::", [(["a"], True, []), ([], True, ["a"])], True)

    def test_labels(self):
        self.check("z! z.. z::", [None, ([], True, [])], True)
        self.check("t! t", [None, (["t"], False, ["t"]), ([], False, [])], False)

    def test_small_forms(self):
        for made in small_forms():
            self.assertEqual(table(made), reckoned_table(made, list("abtxy"), "y"), made.told())

    def test_forms_of_four_places(self):
        dice = random.Random(28)
        for turn in range(250):
            places = [dice.choice([Seat, Both])("dbca"[at], dice.random() < 0.6) for at in range(dice.choice([3, 4]))]
            ends = [Tail("a")] * dice.randrange(2) + [Tag("t", dice.random() < 0.5)] * dice.randrange(2)
            made = Form(places + ends + [Bag("b")] * dice.randrange(2), ["x"] * dice.randrange(2))
            self.assertEqual(table(made), reckoned_table(made, list("abcdtxy"), "y"), made.told())

    def test_forms_that_are_told(self):
        dice = random.Random(29)
        for turn in range(200):
            made = form(dice.choice(["a! b c d.. t: e:: -x", "a b? c!? t:", "a? b? c?", "a b e:: -x"]))
            part = answer_of(Part, made, call(dice.randrange(2), dice.choice(["", "t", "b", "y"])))
            covers = [dice.choice([Swallow(), Without("a"), Exchange("a", "x"), Spare("b", 0)]) for step in range(2)]
            for told in [over_all(covers, made), part.left() if isinstance(part, Part) else None]:
                if told is not None:
                    self.assertEqual(table(told), reckoned_table(told, list("abctxyz"), "z"), told.told())

    def test_great_forms(self):
        dice = random.Random(30)
        for turn in range(150):
            made = chance_form(dice)
            rows, goes_on = table(made)
            self.assertIs(goes_on, made.tail() is not None)
            for step in range(8):
                many = dice.randrange(made.places() + 3)
                row = rows[min(many, len(rows) - 1)] if many < len(rows) or goes_on else None
                self.check_row(dice, made, many, row)

    def check_row(self, dice, made, many, row):
        doors = [told[1] for told in made.told()[0] if told[0] in ("both", "tag")]
        if row is None:
            for names in [(), doors, doors[:made.places()], dice.sample(doors, len(doors) // 2)]:
                self.assertIs(fits(made, call(many, " ".join(names))), False)
            return
        needed, open_row, names = row
        self.assertIs(fits(made, call(many, " ".join(needed))), True)
        for name in needed:
            self.assertIs(fits(made, call(many, " ".join(word for word in needed if word != name))), False)
        for name in doors + made.bars()[:4] + ["zzz"]:
            if name not in needed:
                fitting = fits(made, call(many, " ".join(needed + [name])))
                self.assertIs(fitting, (name in names) != open_row)

    def test_the_bounds(self):
        names = [letters(k) for k in range(60)]
        boths = [Both("b" + name) for name in names[:23]]
        rows, goes_on = table(Form(boths + [Bag("e")], list(reversed(names))))
        self.assertEqual((len(rows), goes_on), (24, False))
        self.assertEqual(rows[0], (["b" + name for name in names[:23]], True, names))
        self.assertEqual(rows[23], ([], True, sorted(names + ["b" + name for name in names[:23]])))
        rows, goes_on = table(Form(boths + [Tail("c")], names))
        self.assertEqual((len(rows), goes_on), (24, True))

    def test_what_is_told_belongs_to_the_asker(self):
        made = form("b a? c.. t: e:: -x")
        kept = table(made)
        told = table(made)
        told[0][0][0].clear()
        told[0][0][2].append("q")
        told[0].clear()
        self.assertEqual(table(made), kept)
        self.assertEqual(made.told(), form("b a? c.. t: e:: -x").told())


class SameCalls(unittest.TestCase):
    def check(self, one, other, expected):
        for first, second in [(one, other), (other, one)]:
            self.assertIs(same_calls(form(first), form(second)), expected, (first, second))

    def test_forms_that_take_the_same(self):
        for one, other in [("", ""), ("a! b c..", "z! b y.."), ("t: u:?", "u:? t:"), ("a -x", "a"), ("", "-x -y"),
                           ("e:: -x -y", "f:: -y -x"), ("a! b!", "b! a!"), ("a b!", "a! b!"), ("a b? c!", "x! y! z!"),
                           ("a!? c..", "c.."), ("a!? b!? c.. t:", "q.. t:"), ("a b! e::", "c! d! e:: -a"),
                           ("e::", "t:? e::")]:
            self.check(one, other, True)
            self.check(one, one, True)

    def test_forms_that_do_not(self):
        for one, other in [("", "a!?"), ("", "c.."), ("", "e::"), ("a", "a!"), ("a", "a?"), ("a!", "a!?"), ("a", "b"),
                           ("a b", "b a"), ("t:", "t:?"), ("t:", "u:"), ("t", "t:"), ("e::", "e:: -x"),
                           ("e:: -x", "e:: -y"), ("a! c..", "a!"), ("a!?", "c.."), ("a? b", "a b"), ("a! b", "a! b!"),
                           ("a b! e::", "a! b! e::"), ("a? b? c..", "b? a? c.."), ("t: e::", "e::")]:
            self.check(one, other, False)

    def test_small_forms(self):
        """All pairs of some small forms, of other labels and orders too, against all small calls."""
        dice = random.Random(31)
        forms = dice.sample(list(small_forms()), 120)
        forms += [form(text) for text in ["a b!", "a! b!", "b! a", "b a!", "a b! e::", "a! b! e::", "t:? e::", "e::",
                                          "a? b? c..", "a!? c..", "c.. -x", "y: t:", "t: y:", "a -x -y", "y? e:: -x"]]
        pool = "abtxyz"
        found = [taken(made, pool, 4) for made in forms]
        alike = 0
        for (one, first), (other, second) in itertools.product(list(zip(forms, found)), repeat=2):
            self.assertIs(same_calls(one, other), first == second, (one.told(), other.told()))
            alike += first == second
        self.assertGreater(alike, len(forms) + 50)

    def test_covers_that_change_nothing(self):
        for text in ["a! b c.. t: e:: -x", "a b? c!?", "t:? e::", "c.."]:
            made = form(text)
            self.assertIs(same_calls(over_all([], made), made), True)
            self.assertIs(same_calls(over_all([Exchange("a", "q")] * 2, made), made), True)
            self.assertIs(same_calls(over_all([Swallow()], made), made), False)

    def test_great_forms(self):
        dice = random.Random(32)
        for turn in range(60):
            made = chance_form(dice)
            parameters = made.parameters()
            tags = parameters[made.places() + (made.tail() is not None):len(parameters) - (made.bag() is not None)]
            first = len(parameters) - len(tags) - (made.bag() is not None)
            mixed = parameters[:first] + dice.sample(tags, len(tags)) + parameters[first + len(tags):]
            other = Form(mixed, list(reversed(made.bars())))
            self.assertIs(same_calls(made, other), True)
            if made.bag() is not None and made.bars():
                self.assertIs(same_calls(made, Form(mixed, made.bars()[1:])), False)
            if tags:
                changed = [Tag(tags[0].name, not tags[0].free()) if one == tags[0] else one for one in mixed]
                self.assertIs(same_calls(made, Form(changed, made.bars())), False)


if __name__ == "__main__":
    unittest.main()
