"""[33], [2], [3]: the desk: its rows, their answers, what is refused and in which order; and the whole program."""

import random
import unittest

from callbinds import errors
from callbinds.covers import Ahead, ByName, ByPlace, Exchange, Spare, Swallow, With, Without
from callbinds.desk import Desk
from callbinds.fitting import fits, misfits, paper
from callbinds.functiontexts import read_function
from callbinds.mending import mends
from callbinds.parts import Part
from callbinds.rooms import room
from callbinds.rowed import over_all
from callbinds.standing import parting
from callbinds.tables import same_calls, table
from callbinds.texts import read_call, read_form, show_call, show_form
from callbinds.wells import Well
from helper import behind, letters

FORMS = {"plain": "a!, b?, c.., d:, e::, -x", "small": "a, b", "none": "", "tags": "t:, u:?"}


def stocked():
    """A desk with some forms and a function."""
    desk = Desk()
    for name, text in FORMS.items():
        desk.say(f"form {name} {text}")
    desk.say("make work a!, b=anew, c.., t:=@1*2+1, e::")
    return desk


def state(desk):
    """All that a desk tells without changing: of the names of the tests, and of the well by a trial of its own."""
    found = []
    for name in list(FORMS) + ["work", "new", "other", "q"]:
        for row in [f"show {name}", f"fits {name} 1"]:
            try:
                found.append(desk.say(row))
            except errors.Unknown:
                found.append(None)
    return (found, desk.well.ahead())


class DeskCase(unittest.TestCase):
    def check(self, desk, row, answer):
        self.assertEqual(desk.say(row), answer, row)

    def check_refused(self, desk, row, kind, number=None):
        before = state(desk)
        with self.assertRaises(errors.CallError) as taken:
            desk.say(row)
        self.assertIs(type(taken.exception), kind, repr(row))
        if number is not None:
            self.assertEqual(taken.exception.number, number, row)
        self.assertEqual(state(desk), before, row)


class Rows(DeskCase):
    def test_form_and_show(self):
        desk = Desk()
        for text in ["", "a", "a!?, b, c.., t:?, e::, -x, -y", "-x", "form"]:
            self.check(desk, "form f " + text, "ok")
            self.check(desk, "show f", text)
        self.check(desk, "form abcdefgh a", "ok")
        self.check(desk, "form show b", "ok")
        self.check(desk, "show show", "b")
        self.check(desk, "show abcdefgh", "a")

    def test_make(self):
        desk = Desk()
        self.check(desk, "make f ", "ok")
        self.check(desk, "show f", "")
        self.check(desk, "call f ", "")
        self.check(desk, "make f a!, b=once, c.., t:=anew, u:=@0*2+-3, e::", "ok")
        self.check(desk, "show f", "a!, b?, c.., t:?, u:?, e::")
        self.check(desk, "call f 5", "5, 1, [], 2, 7, {}")
        self.check(desk, "call f 5, 6, [7 8], y=-9, t=4, z=0", "5, 6, [7 8], 4, 7, {y=-9 z=0}")
        self.check(desk, "call f 5", "5, 1, [], 3, 7, {}")

    def test_fits(self):
        desk = stocked()
        self.check(desk, "fits plain 1, d=2", "yes")
        self.check(desk, "fits none ", "yes")
        self.check(desk, "fits none 1, [2 3]", "over 0, over 1, over 2")
        self.check(desk, "fits plain ", "lacking 0, lacking 3")
        self.check(desk, "fits plain 1, 2, x=1, b=2, d=3, d=4", "doubled 3, barred 0, again 1")
        self.check(desk, "fits small 1, 2, 3, q=1, a=2", "over 2, strange 0, again 1")
        self.check(desk, "fits work 1, {}, []", "yes")
        self.check(desk, "fits work ", "lacking 0")

    def test_paper(self):
        desk = stocked()
        self.check(desk, "paper none ", "")
        self.check(desk, "paper plain 1, d=2", "place 0, free, places, name 0, names")
        self.check(desk, "paper plain [1 2 3 4], y=1, d=2, z=3", "place 0, place 1, places 2 3, name 1, names 0 2")
        self.check(desk, "paper small b=1, 2", "place 0, name 0")
        self.check(desk, "paper work 1, t=1", "place 0, free, places, name 0, names")

    def test_mend(self):
        desk = stocked()
        self.check(desk, "mend plain 1, d=2", "")
        self.check(desk, "mend none 1, 2", "less, less")
        self.check(desk, "mend tags u=1", "in t")
        self.check(desk, "mend tags u=1, q=2, t=3", "out q")
        self.check(desk, "mend work ", "more")
        answer = desk.say("mend plain x=1")
        self.assertEqual(sorted(answer.split(", ")), ["in d", "more", "out x"])

    def test_call(self):
        desk = Desk()
        self.check(desk, "make f a=-1, b=@0*-9+1", "ok")
        self.check(desk, "call f ", "-1, 10")
        self.check(desk, "call f b=0", "-1, 0")
        great = 10 ** 60 - 1
        self.check(desk, f"call f {great}", f"{great}, {-9 * great + 1}")
        self.check(desk, "make f c.., e::", "ok")
        self.check(desk, "call f ", "[], {}")
        self.check(desk, "call f [1 -2], b=3, 4, {a=-5}", "[1 -2 4], {b=3 a=-5}")

    def test_part(self):
        desk = stocked()
        self.check(desk, "part new plain 1, y=2", "ok")
        for text in ["", "d=1", "2, d=1", "d=1, y=2", "d=1, x=2", "[2 3], z=1, d=4"]:
            expected = fits(read_form(FORMS["plain"]), [("one", 1), ("named", "y", 2)] + read_call(text))
            self.assertIs(desk.say("fits new " + text) == "yes", expected, text)
        self.check(desk, "part new new d=1", "ok")
        self.check(desk, "fits new ", "yes")
        self.check(desk, "part q work 1, 2", "ok")
        self.check(desk, "fits q 3, t=1", "yes")
        self.check(desk, "part new small ", "ok")
        self.check(desk, "same new small", "yes")

    def test_part_none(self):
        desk = stocked()
        self.check(desk, "form small a, b!", "ok")
        before = state(desk)
        self.check(desk, "part new small a=1", "none")
        self.check(desk, "part small small a=1", "none")
        self.assertEqual(state(desk), before)
        self.check_refused(desk, "show new", errors.Unknown)

    def test_cover(self):
        desk = stocked()
        for words, covers in [("ahead", [Ahead(0)]), ("with q", [With("q", 0)]), ("with d", [With("d", 0)]),
                              ("spare d", [Spare("d", 0)]), ("without b", [Without("b")]), ("swallow", [Swallow()]),
                              ("exchange b y", [Exchange("b", "y")]), ("byplace", [ByPlace()]), ("byname", [ByName()]),
                              ("spare d byplace", [Spare("d", 0), ByPlace()]), ("swallow ahead", [Swallow(), Ahead(0)]),
                              ("byplace spare d", [ByPlace(), Spare("d", 0)]), ("ahead byname", [Ahead(0), ByName()]),
                              ("byname ahead", [ByName(), Ahead(0)]), ("with with", [With("with", 0)]),
                              ("exchange ahead swallow byname", [Exchange("ahead", "swallow"), ByName()]),
                              ("without d with d", [Without("d"), With("d", 0)]),
                              ("ahead " * 5 + "ahead", [Ahead(0)] * 6)]:
            expected = over_all(covers, read_form(FORMS["plain"]))
            desk = stocked()
            if expected is None:
                before = state(desk)
                self.check(desk, "cover new plain " + words, "none")
                self.assertEqual(state(desk), before)
            else:
                self.check(desk, "cover new plain " + words, "ok")
                self.assertEqual(table(read_form(desk.say("show new"))), table(expected), words)
                self.check(desk, "show plain", FORMS["plain"])

    def test_cover_of_a_function_and_onto_itself(self):
        desk = stocked()
        self.check(desk, "cover new work ahead", "ok")
        self.check(desk, "fits new ", "yes")
        self.check_refused(desk, "call new ", errors.Unknown)
        for turn in range(30):
            self.check(desk, "cover small small swallow", "ok")
        self.check(desk, "room small a b", "30 30")
        self.check(desk, "cover small small " + " ".join(["ahead"] * 6), "ok")
        self.check(desk, "room small", "26 26")

    def test_cover_none(self):
        desk = stocked()
        before = state(desk)
        self.check(desk, "cover new none ahead", "none")
        self.check(desk, "cover small tags byplace", "none")
        self.check(desk, "cover plain plain with x", "none")
        self.assertEqual(state(desk), before)

    def test_room(self):
        desk = stocked()
        for row, answer in [("room small", "2 2"), ("room small b", "1 1"), ("room small b a", "0 0"),
                            ("room small a", "none"), ("room plain d", "1 on"), ("room plain d b", "1 1"),
                            ("room plain", "none"), ("room plain d x", "none"), ("room tags t u", "0 0"),
                            ("room tags u", "none"), ("room none", "0 0"), ("room work t y z", "1 on"),
                            ("room tags room", "none")]:
            self.check(desk, row, answer)

    def test_same(self):
        desk = stocked()
        desk.say("form other u:?, t:, -q")
        desk.say("form new z!, b?, y.., t:?, f::")
        for row, answer in [("same tags other", "yes"), ("same other tags", "yes"), ("same tags small", "no"),
                            ("same small small", "yes"), ("same work new", "yes"), ("same none plain", "no")]:
            self.check(desk, row, answer)

    def test_stands(self):
        desk = stocked()
        desk.say("form other c.., e::")
        for row, answer in [("stands other plain", "yes"), ("stands small small", "yes"), ("stands other work", "yes"),
                            ("stands plain other", "0"), ("stands none tags", "0 t"), ("stands tags none", "0"),
                            ("stands work other", "0")]:
            self.check(desk, row, answer)
        desk.say("form one a!, b!, t:")
        desk.say("form two a!, b!, t:, u:")
        self.check(desk, "stands one two", "2 t u")
        self.check(desk, "stands two one", "2 t")

    def test_names_told_anew(self):
        desk = stocked()
        self.check(desk, "form work a", "ok")
        self.check_refused(desk, "call work 1", errors.Unknown)
        self.check(desk, "show work", "a")
        self.check(desk, "make small c=once", "ok")
        self.check(desk, "call small ", "1")
        self.check(desk, "make small c=once", "ok")
        self.check(desk, "call small ", "2")
        self.check(desk, "part small small 1", "ok")
        self.check_refused(desk, "call small ", errors.Unknown)
        self.check(desk, "show small", show_form(Part(read_form("c?"), [("one", 1)]).left()))

    def test_what_was_made_of_a_form_stays(self):
        desk = stocked()
        self.check(desk, "cover new small swallow", "ok")
        shown = desk.say("show new")
        desk.say("form small q")
        self.check(desk, "show new", shown)

    def test_two_desks(self):
        one, other = Desk(), Desk()
        one.say("make f a=once")
        self.check_refused(other, "show f", errors.Unknown)
        other.say("make f a=once")
        self.assertEqual([one.say("call f "), other.say("call f ")], ["1", "1"])
        one.say("make f a=once")
        self.assertEqual([one.say("call f "), other.say("call f ")], ["2", "1"])


class NoRows(DeskCase):
    def test_no_texts(self):
        desk = stocked()
        for wrong in [None, True, False, 0, 1, -1, [], ["show", "small"], ("show small",), {}, {"a": 1}, set(),
                      b"show small", object()]:
            self.check_refused(desk, wrong, errors.NoRow)

    def test_no_such_word(self):
        desk = stocked()
        for row in ["", " ", "  ", "small", "Show small", "showsmall", "shows small", "fit small 1", "1", "\n",
                    "show\tsmall", "ok", "forms q a", "leave small"]:
            self.check_refused(desk, row, errors.NoRow)

    def test_blanks(self):
        desk = stocked()
        for row in [" show small", "show  small", "show small ", "show small  ", "show", "show ", "  form q a",
                    "form  q a", " form q a", "fits  small 1", "part  q small 1", "part q  small 1",
                    "same small  small",
                    "same  small small", "same small small ", "stands small none ", "room small ", "room  small",
                    "room small  a", "room small a ", "cover q small ", "cover q small  ahead", "cover q small ahead ",
                    "cover  q small ahead", "cover q  small ahead", "cover q small with  a",
                    "cover q small with a  ahead",
                    "show small\n", "show\nsmall"]:
            self.check_refused(desk, row, errors.NoRow)

    def test_the_blank_ahead_of_a_text(self):
        desk = stocked()
        for row in ["form q", "make q", "fits small", "paper small", "mend small", "call work", "part q small"]:
            self.check_refused(desk, row, errors.NoRow)
        for row in ["form q ", "make q ", "fits small ", "mend small ", "part q small "]:
            self.assertIs(type(desk.say(row)), str)

    def test_words_too_few_or_too_many(self):
        desk = stocked()
        for row in ["form", "make", "fits", "paper", "mend", "call", "part", "part q", "cover", "cover q",
                    "cover q small",
                    "room", "same", "same small", "stands", "stands small", "show small small", "same small none tags",
                    "stands small none tags", "form ", "part ", "room "]:
            self.check_refused(desk, row, errors.NoRow)

    def test_what_is_no_name(self):
        desk = stocked()
        for wrong in ["A", "a1", "1", "-a", "abcdefghi", "a=1", "small,", "?", "sMall", "small!", "a_b", "\n", "q\n"]:
            for row in ["form {} a", "make {} a", "show {}", "fits {} 1", "paper {} 1", "mend {} 1", "call {} 1",
                        "part {} small 1", "part q {} 1", "cover {} small ahead", "cover q {} ahead", "room {}",
                        "room small {}", "room small a {}", "same {} small", "same small {}", "stands {} small",
                        "stands small {}", "cover q small with {}", "cover q small spare {}",
                        "cover q small without {}",
                        "cover q small exchange {} a", "cover q small exchange a {}", "cover q small ahead with {}"]:
                self.check_refused(desk, row.format(wrong), errors.NoRow)

    def test_covers(self):
        desk = stocked()
        for words in ["", "over", "ahead over", "with", "spare", "without", "exchange", "exchange a", "ahead with",
                      "with a b", "ahead a", "swallow q", "exchange a b c", "Ahead", "by place", "byplace q", "bypl",
                      "with a exchange b", " ".join(["ahead"] * 7), " ".join(["with a"] * 7),
                      " ".join(["swallow"] * 7), "ahead " * 6 + "over", "small"]:
            self.check_refused(desk, "cover q small " + words, errors.NoRow)

    def test_six_covers_with_many_words(self):
        desk = stocked()
        self.check(desk, "cover q plain " + " ".join(["exchange a b"] * 6), "ok")
        self.check(desk, "same q plain", "yes")
        self.check_refused(desk, "cover q plain " + " ".join(["exchange a b"] * 7), errors.NoRow)

    def test_alike_names(self):
        desk = stocked()
        for row in ["room small a a", "room small a b a", "room small q q", "room small small small"]:
            self.check_refused(desk, row, errors.NoRow)


class Refusals(DeskCase):
    def test_unknown(self):
        desk = stocked()
        for row in ["show q", "fits q 1", "paper q 1", "mend q 1", "call q 1", "part new q 1", "cover new q ahead",
                    "room q",
                    "room q a", "same q small", "same small q", "same q q", "stands q small", "stands small q",
                    "part q q ", "cover q q swallow", "call small 1, 2", "call none ", "show form"]:
            self.check_refused(desk, row, errors.Unknown)

    def test_no_text(self):
        desk = stocked()
        for row in ["form new a,", "form new a!!", "form small  a", "form new a ", "form new a, a", "form new b.., a",
                    "form new a=1", "make new a?", "make new a=@0*1+1", "make work b=once, a=", "make new a=once, a",
                    "make new a=once, -x", "make new  ", "fits small 01", "fits small  1", "fits small 1 ",
                    "fits small 1,2", "paper small x", "mend small [", "call work 1,", "call work 1  ", "call work +1",
                    "part new small {a}", "part new small 1, 2, ", f"fits small {10 ** 60}", "form new \n",
                    "fits small " + ", ".join(["1"] * 31)]:
            self.check_refused(desk, row, errors.NoText)
        names = [letters(k) for k in range(61)]
        self.check_refused(desk, "form new " + ", ".join(names[:25]), errors.NoText)
        self.check_refused(desk, "form new " + ", ".join("-" + name for name in names), errors.NoText)

    def test_misfits(self):
        desk = stocked()
        for row, kind, number in [
                ("paper small ", errors.Lacking, 0), ("paper small 1, 2, 3", errors.Over, 2),
                ("paper small 1, a=1", errors.Again, 0), ("paper small 1, q=2", errors.Strange, 0),
                ("paper plain 1, d=1, x=2", errors.Barred, 1), ("paper plain d=1, d=2", errors.Doubled, 1),
                ("call work ", errors.Lacking, 0), ("call work 1, t=1, t=2", errors.Doubled, 1),
                ("call work 1, 2, b=3", errors.Again, 0), ("part new small 1, 2, 3", errors.Over, 2),
                ("part new small 1, q=3", errors.Strange, 0), ("part small plain y=1, x=1", errors.Barred, 1),
                ("part new small 1, a=3", errors.Again, 0), ("part new tags t=1, t=1", errors.Doubled, 1)]:
            self.check_refused(desk, row, kind, number)

    def test_no_row_ahead_of_unknown_ahead_of_no_text_ahead_of_misfits(self):
        desk = stocked()
        for row, kind in [("room q a a", errors.NoRow), ("room q A", errors.NoRow), ("cover new q over", errors.NoRow),
                          ("cover new q " + " ".join(["ahead"] * 7), errors.NoRow), ("same q A", errors.NoRow),
                          ("same Q q", errors.NoRow), ("part A q [", errors.NoRow), ("part new q [", errors.Unknown),
                          ("fits q [", errors.Unknown), ("paper q 1,", errors.Unknown), ("mend q x", errors.Unknown),
                          ("call q x", errors.Unknown), ("call small x", errors.Unknown),
                          ("call small 1, 2, 3", errors.Unknown), ("call work [, [", errors.NoText),
                          ("paper small 1, 2, 3, x", errors.NoText), ("part new small 1, 2, 3,", errors.NoText),
                          ("part new small 1, 2, 3", errors.Over), ("form A a,", errors.NoRow),
                          ("make A a?", errors.NoRow), ("fits A [", errors.NoRow), ("cover new q with A", errors.NoRow),
                          ("stands q q q", errors.NoRow)]:
            self.check_refused(desk, row, kind)

    def test_what_is_refused_leaves_the_well(self):
        desk = Desk()
        desk.say("make f a!, b=anew")
        for row, kind in [("make g a=once, b=", errors.NoText), ("make g a=once, b=@1*1+1", errors.NoText),
                          ("make g a=once, -x", errors.NoText), ("make G a=once", errors.NoRow),
                          ("call f ", errors.Lacking), ("call f 1, 2, 3", errors.Over), ("call f 1,", errors.NoText),
                          ("call g 1", errors.Unknown), ("make f a=once, a=once", errors.NoText)]:
            self.check_refused(desk, row, kind)
        self.check(desk, "call f 9", "9, 1")
        self.check(desk, "make g a=once", "ok")
        self.check(desk, "call g ", "2")
        self.check(desk, "call f 9", "9, 3")

    def test_asking_draws_nothing(self):
        desk = stocked()
        for row in ["show work", "fits work 1", "paper work 1", "mend work ", "part new work ",
                    "cover new work swallow", "room work", "same work small", "stands work small"]:
            desk.say(row)
        self.check(desk, "call work 5", "5, 1, [], 3, {}")


class TheWhole(DeskCase):
    """Rows told to a desk one behind the other, and what it answers held against the modules' own answers."""

    def test_chance_rows(self):
        for seed in range(150):
            self.check_chance_rows(random.Random(seed))

    def check_chance_rows(self, dice):
        desk, kept, well = Desk(), {}, Well()
        for turn in range(60):
            word = dice.choice(["form", "make", "show", "fits", "paper", "mend", "call", "part", "cover", "room",
                                "same", "stands"] + (["form", "make"] * 6 if turn < 6 else []))
            getattr(self, "say_" + word)(dice, desk, kept, well)

    def answer(self, desk, row):
        """The answer, or the class of the refusal and its number, where it has one."""
        try:
            return desk.say(row)
        except errors.CallError as refused:
            return (type(refused), getattr(refused, "number", None))

    def expected(self, deed):
        try:
            return deed()
        except errors.CallError as refused:
            return (type(refused), getattr(refused, "number", None))

    def some_call(self, dice):
        pieces = [dice.choice(["1", "-2", "[]", "[3 4]", "a=5", "b=6", "t=7", "x=8", "y=9", "{}", "{t=1 y=2}"])
                  for count in range(dice.randrange(5))]
        return ", ".join(pieces)

    def some_name(self, dice):
        return dice.choice(["f", "g", "h"])

    def form_of(self, kept, name):
        if name not in kept:
            raise errors.Unknown("")
        return kept[name].form() if hasattr(kept[name], "answer") else kept[name]

    def keep(self, kept, name, told):
        if told is None:
            return "none"
        kept[name] = told
        return "ok"

    def say_form(self, dice, desk, kept, well):
        name = self.some_name(dice)
        text = dice.choice(["a!, b?, c.., t:, e::, -x", "a, b", "a?, b!?, t:?", "t:, b:?, e::", "c..", "",
                            "b, a?, e::, -y", "a, b, c, d, t:", "t:, a", "a!?, b, c..", "a, a"])
        self.assertEqual(self.answer(desk, f"form {name} {text}"),
                         self.expected(lambda: self.keep(kept, name, read_form(text))))

    def say_make(self, dice, desk, kept, well):
        name = self.some_name(dice)
        text = dice.choice(["a!, b=once, c.., t:=anew, e::", "a=anew, b=@0*2+1", "t:=once, b:=@0*-1+5", "c..", "",
                            "a=once, b=once, a=1", "a, b, t:=7", "a=@0*1+1"])
        self.assertEqual(self.answer(desk, f"make {name} {text}"),
                         self.expected(lambda: self.keep(kept, name, read_function(text, well))))

    def say_show(self, dice, desk, kept, well):
        name = self.some_name(dice)
        self.assertEqual(self.answer(desk, "show " + name), self.expected(lambda: show_form(self.form_of(kept, name))))

    def say_fits(self, dice, desk, kept, well):
        name, text = self.some_name(dice), self.some_call(dice)
        told = self.answer(desk, f"fits {name} {text}")
        found = self.expected(lambda: misfits(self.form_of(kept, name), read_call(text)))
        if isinstance(found, list):
            found = ", ".join(f"{word} {number}" for word, number in found) or "yes"
        self.assertEqual(told, found)

    def say_paper(self, dice, desk, kept, well):
        name, text = self.some_name(dice), self.some_call(dice)
        told = self.answer(desk, f"paper {name} {text}")
        found = self.expected(lambda: paper(self.form_of(kept, name), read_call(text)))
        if isinstance(found, list):
            words = [[entry[0]] + [str(number) for at in entry[1:] for number in (at if isinstance(at, list) else [at])]
                     for entry in found]
            found = ", ".join(" ".join(row) for row in words)
        self.assertEqual(told, found)

    def say_mend(self, dice, desk, kept, well):
        name, text = self.some_name(dice), self.some_call(dice)
        told = self.answer(desk, f"mend {name} {text}")
        found = self.expected(lambda: mends(self.form_of(kept, name), read_call(text)))
        if isinstance(found, list):
            changes = [tuple(piece.split(" ")) for piece in told.split(", ")] if told else []
            self.assertEqual(len(changes), len(found))
            self.assertIs(fits(self.form_of(kept, name), behind(read_call(text), changes)), True)
        else:
            self.assertEqual(told, found)

    def say_call(self, dice, desk, kept, well):
        name, text = self.some_name(dice), self.some_call(dice)
        told = self.answer(desk, f"call {name} {text}")
        if not hasattr(kept.get(name), "answer"):
            self.assertEqual(told, (errors.Unknown, None))
            return
        found = self.expected(lambda: kept[name].answer(read_call(text)))
        if isinstance(found, list):
            sorts = [one[0] for one in kept[name].form().told()[0]]
            items = [({"tail": "row", "bag": "book"}.get(sort, "one"), value) for sort, value in zip(sorts, found)]
            found = show_call(items)
        self.assertEqual(told, found)
        self.assertEqual(desk.well.ahead(), well.ahead())

    def say_part(self, dice, desk, kept, well):
        new, name, text = self.some_name(dice), self.some_name(dice), self.some_call(dice)
        told = self.answer(desk, f"part {new} {name} {text}")
        found = self.expected(
            lambda: self.keep(kept, new, Part(self.form_of(kept, name), read_call(text)).left()))
        self.assertEqual(told, found)

    def say_cover(self, dice, desk, kept, well):
        new, name = self.some_name(dice), self.some_name(dice)
        chosen = [dice.choice([("ahead", Ahead(0)), ("with b", With("b", 0)), ("spare t", Spare("t", 0)),
                               ("without a", Without("a")), ("exchange a y", Exchange("a", "y")),
                               ("swallow", Swallow()),
                               ("byplace", ByPlace()), ("byname", ByName())]) for count in range(dice.randrange(1, 4))]
        told = self.answer(desk, f"cover {new} {name} " + " ".join(words for words, cover in chosen))
        covers = [cover for words, cover in chosen]
        self.assertEqual(told, self.expected(lambda: self.keep(kept, new, over_all(covers, self.form_of(kept, name)))))

    def say_room(self, dice, desk, kept, well):
        name, names = self.some_name(dice), dice.sample(["a", "b", "t", "x", "y"], dice.randrange(4))
        told = self.answer(desk, " ".join(["room", name] + names))
        found = self.expected(lambda: (room(self.form_of(kept, name), names),))
        if len(found) == 1:
            pair = found[0]
            found = "none" if pair is None else f"{pair[0]} {'on' if pair[1] is None else pair[1]}"
        self.assertEqual(told, found)

    def say_same(self, dice, desk, kept, well):
        one, other = self.some_name(dice), self.some_name(dice)
        told = self.answer(desk, f"same {one} {other}")
        found = self.expected(lambda: same_calls(self.form_of(kept, one), self.form_of(kept, other)))
        self.assertEqual(told, found if isinstance(found, tuple) else ("yes" if found else "no"))

    def say_stands(self, dice, desk, kept, well):
        one, other = self.some_name(dice), self.some_name(dice)
        told = self.answer(desk, f"stands {one} {other}")
        found = self.expected(lambda: [parting(self.form_of(kept, one), self.form_of(kept, other))])
        if isinstance(found, list):
            found = "yes" if found[0] is None else " ".join([str(found[0][0])] + found[0][1])
        self.assertEqual(told, found)

    def test_one_story(self):
        desk = Desk()
        for row, answer in [
                ("form base a!, b, c?, t:, -x", "ok"), ("make work a!, b=once, c.., t:=@0*2+-3, e::", "ok"),
                ("fits base 1, b=2, t=3", "yes"), ("call work 5", "5, 1, [], 7, {}"),
                ("part left base 1, t=2", "ok"), ("room left", "1 2"), ("room left b", "0 0"), ("room left b c", "0 0"),
                ("cover over base without x swallow", "ok"), ("room over b t x", "2 2"), ("same base over", "no"),
                ("cover back over ahead", "ok"), ("room back b t x", "1 1"), ("stands back base", "yes"),
                ("cover none left byname ahead", "ok"), ("room none c", "0 0"),
                ("mend left q=1, b=2", "out q"), ("make left a=anew", "ok"), ("call left ", "2"),
                ("call work 1, b=2, y=4", "1, 2, [], -1, {y=4}"), ("show left", "a?"), ("stands left none", "0 c")]:
            self.check(desk, row, answer)


if __name__ == "__main__":
    unittest.main()
