"""[31], [2]: the texts of forms and calls, written and read, and what is refused with NoText."""

import copy
import random
import re
import string
import unittest

from callbinds import errors
from callbinds.covers import Swallow, Without
from callbinds.forms import Form
from callbinds.parameters import Bag, Both, Seat, Tag, Tail
from callbinds.parts import Part
from callbinds.rowed import over_all
from callbinds.texts import read_call, read_form, show_call, show_form
from helper import call, chance_form, form, letters, small_forms

GREAT = 10 ** 60 - 1
NO_TEXTS = [None, True, False, 0, 1, -3, 10 ** 70, [], ["a"], (), ("a",), {}, {"a": 1}, set(), b"", b"a", object(),
            Form([])]
SIGNS = string.printable[:95] + "\n\t\r\v\f\0"

PARAMETER = re.compile(r"([a-z]{1,8})(?:(!|:|)(\??)|(\.\.|::))")
NUMBER = r"(?:0|-?[1-9][0-9]{0,59})"
ONE = re.compile(NUMBER)
ROW = re.compile(rf"\[((?:{NUMBER}(?: {NUMBER})*)?)\]")
NAMED = re.compile(rf"([a-z]{{1,8}})=({NUMBER})")
BOOK = re.compile(rf"\{{((?:{NAMED.pattern}(?: {NAMED.pattern})*)?)\}}")


def reckoned_form(text):
    """A second reading: what the form that a text writes tells, or None."""
    parameters, bars = [], []
    for piece in text.split(", ") if text else []:
        found = PARAMETER.fullmatch(piece)
        if found and not bars:
            name, end, free, left_over = found.groups()
            if left_over:
                parameters.append(Tail(name) if left_over == ".." else Bag(name))
            else:
                parameters.append({"!": Seat, "": Both, ":": Tag}[end](name, free == "?"))
        elif re.fullmatch("-[a-z]{1,8}", piece):
            bars.append(piece[1:])
        else:
            return None
    try:
        return Form(parameters, bars).told()
    except errors.CallError:
        return None


def reckoned_item(piece):
    if ONE.fullmatch(piece):
        return ("one", int(piece))
    if NAMED.fullmatch(piece):
        name, number = piece.split("=")
        return ("named", name, int(number))
    if ROW.fullmatch(piece):
        return ("row", [int(word) for word in piece[1:-1].split()])
    if BOOK.fullmatch(piece):
        return ("book", [(word.split("=")[0], int(word.split("=")[1])) for word in piece[1:-1].split()])
    return None


def reckoned_call(text):
    """A second reading: the call that a text writes, or None; how many things it has is not looked at."""
    items = [reckoned_item(piece) for piece in text.split(", ")] if text else []
    return None if None in items else items


def close_texts(text):
    """The texts with one sign put in, left out or exchanged, or two that stand beside one another exchanged."""
    for at in range(len(text) + 1):
        for sign in SIGNS:
            yield text[:at] + sign + text[at:]
            yield text[:at] + sign + text[at + 1:]
        yield text[:at] + text[at + 1:]
        yield text[:at] + text[at + 1:at + 2] + text[at:at + 1] + text[at + 2:]


class TextCase(unittest.TestCase):
    def check_refused(self, deed, text):
        with self.assertRaises(errors.CallError) as taken:
            deed(text)
        self.assertIs(type(taken.exception), errors.NoText, repr(text))


class Forms(TextCase):
    def check(self, text, told):
        made = Form(told[0], told[1])
        self.assertEqual(show_form(made), text)
        self.assertIs(type(read_form(text)), Form)
        self.assertEqual(read_form(text).told(), made.told())

    def test_each_sort(self):
        for text, parameter in [("a!", Seat("a")), ("a!?", Seat("a", True)), ("a", Both("a")), ("a?", Both("a", True)),
                                ("a..", Tail("a")), ("a:", Tag("a")), ("a:?", Tag("a", True)), ("a::", Bag("a")),
                                ("abcdefgh", Both("abcdefgh")), ("once?", Both("once", True))]:
            self.check(text, ([parameter], []))

    def test_several(self):
        self.check("", ([], []))
        self.check("-x", ([], ["x"]))
        self.check("-x, -y, -abcdefgh", ([], ["x", "y", "abcdefgh"]))
        self.check("a!, b?, c.., d:, e:?, f::, -x, -y",
                   ([Seat("a"), Both("b", True), Tail("c"), Tag("d"), Tag("e", True), Bag("f")], ["x", "y"]))
        self.check("a!?, a, a.., b:, a::", ([Seat("a", True), Both("a"), Tail("a"), Tag("b"), Bag("a")], []))
        self.check("b, a!, c, -a", ([Both("b"), Seat("a"), Both("c")], ["a"]))

    def test_shown_and_read(self):
        dice = random.Random(31)
        for made in list(small_forms()) + [chance_form(dice) for turn in range(100)]:
            text = show_form(made)
            self.assertEqual(reckoned_form(text), made.told())
            self.assertEqual(read_form(text).told(), made.told())
            self.assertEqual(show_form(read_form(text)), text)

    def test_the_bounds(self):
        names = [letters(k) for k in range(61)]
        for parameters, bars, good in [(24, 60, True), (25, 0, False), (0, 61, False), (24, 61, False),
                                       (25, 60, False)]:
            text = ", ".join(["p" + name for name in names[:parameters]] + ["-" + name for name in names[:bars]])
            if good:
                self.assertEqual(show_form(read_form(text)), text)
            else:
                self.check_refused(read_form, text)
        many = ", ".join(["a!"] * 24)
        self.assertEqual(show_form(read_form(many)), many)
        self.check_refused(read_form, many + ", a!")

    def test_a_told_form_above_the_bounds_is_shown(self):
        made = Form([Seat("a")] * 24, [letters(k) for k in range(60)])
        told = over_all([Swallow(), Without("q")], made)
        text = show_form(told)
        self.assertEqual(len(text.split(", ")), 86)
        self.check_refused(read_form, text)
        left = Part(form("a b e:: -x"), call(1, "y")).left()
        self.assertEqual(read_form(show_form(left)).told(), left.told())

    def test_wrong_orders_and_alike_names(self):
        for text in ["a.., b", "a.., b!", "t:, b", "t:, c..", "e::, t:", "e::, f::", "c.., d..", "c.., t:, d..",
                     "e::, a", "a, a", "a, a:", "a:, a:", "a, -a", "a:, -a", "-a, -a", "-x, -y, -x", "a!, b, c, b?"]:
            self.check_refused(read_form, text)

    def test_no_forms(self):
        for text in [" ", ",", ", ", "a,", "a, ", ", a", "a,b", "a ,b", "a , b", "a,  b", "a  ,b", " a", "a ", "a b",
                     "a\n", "a,\tb", "a,\nb", "A", "a1", "1", "abcdefghi", "-abcdefghi", "?", "!", "..", ":", "::",
                     "-", "--a", "- a", "-a!", "-a?", "-a:", "-x, a", "-x, a, -y", "a??", "a?!", "a..?", "a::?", "a.",
                     "a...", "a!!", "a!:", "a:!", "a:::", "a::::", "a?:", "a:.", "a..:", "a=1", "[]", "a;b", "a, , b"]:
            self.check_refused(read_form, text)

    def test_close_texts(self):
        found = 0
        for text in ["", "a", "a!?, b, c.., t:?, e::, -x, -yy", "abcdefgh, -abcdefg", "a?, a!, a.., a::"]:
            for close in close_texts(text):
                expected = reckoned_form(close)
                if expected is None:
                    self.check_refused(read_form, close)
                else:
                    found += 1
                    self.assertEqual(read_form(close).told(), expected)
                    self.assertEqual(show_form(read_form(close)), close)
        self.assertGreater(found, 500)

    def test_no_texts(self):
        for wrong in NO_TEXTS:
            self.check_refused(read_form, wrong)

    def test_what_stays(self):
        made = form("a! b? c.. -x")
        before = made.told()
        self.assertEqual([show_form(made), show_form(made)], ["a!, b?, c.., -x"] * 2)
        self.assertEqual(made.told(), before)
        told = read_form("a!, -x")
        told.parameters().clear()
        told.bars().clear()
        self.assertEqual(read_form("a!, -x").told(), ([("seat", "a", False)], ["x"]))


class Calls(TextCase):
    def check(self, text, items):
        self.assertEqual(show_call(items), text)
        self.assertEqual(read_call(text), items)

    def test_each_kind_of_item(self):
        for text, item in [("0", ("one", 0)), ("7", ("one", 7)), ("-7", ("one", -7)), ("10", ("one", 10)),
                           ("[]", ("row", [])), ("[5]", ("row", [5])), ("[5 -6 0]", ("row", [5, -6, 0])),
                           ("a=3", ("named", "a", 3)), ("abcdefgh=-30", ("named", "abcdefgh", -30)),
                           ("{}", ("book", [])), ("{a=1}", ("book", [("a", 1)])),
                           ("{a=1 b=-2 a=0}", ("book", [("a", 1), ("b", -2), ("a", 0)]))]:
            self.check(text, [item])

    def test_several(self):
        self.check("", [])
        self.check("1, 2", [("one", 1), ("one", 2)])
        self.check("a=1, 2, {}, [3 4], {b=5 a=6}, [], b=7, -8",
                   [("named", "a", 1), ("one", 2), ("book", []), ("row", [3, 4]), ("book", [("b", 5), ("a", 6)]),
                    ("row", []), ("named", "b", 7), ("one", -8)])

    def test_numbers_of_sixty_figures(self):
        for number in [GREAT, -GREAT, 10 ** 59, -(10 ** 59), 10 ** 59 - 1]:
            self.check(str(number), [("one", number)])
            self.check(f"[{number} 1]", [("row", [number, 1])])
            self.check(f"a={number}", [("named", "a", number)])
            self.check("{b=1 a=" + str(number) + "}", [("book", [("b", 1), ("a", number)])])

    def test_numbers_out_of_bounds(self):
        for number in [10 ** 60, -(10 ** 60), 10 ** 60 + 1, 10 ** 61, 10 ** 100, 10 ** 4000, -(10 ** 4000)]:
            for text in ["{}", "[{}]", "[1 {}]", "a={}", "{{a={}}}", "1, {}"]:
                self.check_refused(read_call, text.format(number))
        for text in ["9" * 5000, "-" + "9" * 5000, "0" * 5000]:
            self.check_refused(read_call, text)

    def test_what_is_no_number(self):
        for number in ["00", "01", "-01", "-0", "+1", "--1", "- 1", "1-", "1_0", "1.0", "1e3", "0x1", "-", "", " 1",
                       "1 ", "\t1", "1\n", "one", "-00", "0-", "000"]:
            for text in ["{}", "[1 {}]", "a={}", "{{a={}}}", "1, {}", "{}, 1"]:
                if (text, number) != ("{}", ""):
                    self.check_refused(read_call, text.format(number))

    def test_no_calls(self):
        for text in [" ", ",", ", ", "1,", "1, ", ", 1", "1,2", "1 ,2", "1 , 2", "1,  2", "1 2", "1\n", "1,\t2", "a",
                     "a=", "=1", "=", "a==1", "a=b", "a=1=2", "a =1", "a= 1", "A=1", "abcdefghi=1", "a1=1", "a:1",
                     "[", "]", "][", "[1", "1]", "[ ]", "[ 1]", "[1 ]", "[1  2]", "[1, 2]", "[1,2]", "[[1]]", "[a]",
                     "[a=1]", "[]]", "[[]", "[] ", "[][]", "{", "}", "}{", "{a=1", "a=1}", "{ }", "{ a=1}", "{a=1 }",
                     "{a=1  b=2}", "{a=1, b=2}", "{a=1,b=2}", "{1}", "{a}", "{{a=1}}", "{[1]}", "{a=[1]}", "a=[1]",
                     "a={b=1}", "(1)", "1, , 2", "[}", "{]", "-[1]", "-a=1"]:
            self.check_refused(read_call, text)

    def test_close_texts(self):
        found = 0
        for text in ["", "1", "-10, [2 -3], a=40, {b=5 cc=-6}", "[], {}, 0", "abcdefgh=0, [0]", "9" * 60,
                     "a=-" + "9" * 60]:
            for close in close_texts(text):
                expected = reckoned_call(close)
                if expected is None:
                    self.check_refused(read_call, close)
                else:
                    found += 1
                    self.assertEqual(read_call(close), expected)
                    self.assertEqual(show_call(read_call(close)), close)
        self.assertGreater(found, 1000)

    def test_how_many_items(self):
        for item in ["1", "a=1", "[]", "{}"]:
            text = ", ".join([item] * 30)
            self.assertEqual(show_call(read_call(text)), text)
            self.check_refused(read_call, text + ", " + item)
            self.check_refused(read_call, text + ", []")

    def test_how_many_things_in_an_item(self):
        for text, good in [("[" + " ".join(["1"] * 30) + "]", True), ("[" + " ".join(["1"] * 31) + "]", False),
                           ("{" + " ".join(["a=1"] * 30) + "}", True), ("{" + " ".join(["a=1"] * 31) + "}", False),
                           ("[" + " ".join(["1"] * 60) + "]", False)]:
            if good:
                self.assertEqual(show_call(read_call(text)), text)
            else:
                self.check_refused(read_call, text)

    def test_how_many_things_in_all(self):
        row, book = "[" + " ".join(["1"] * 30) + "]", "{" + " ".join(["a=1"] * 30) + "}"
        for pieces, good in [([row, row], True), ([book, book], True), ([row, book, row, book], True),
                             ([row, row, "1"], False), ([row, "1", row], False), ([book, book, "a=1"], False),
                             ([row, row, book, book, "[]", "{}"], True), ([row, row, "[1]"], False),
                             (["a=1", book, book], False), ([book, "{b=1}", book], False),
                             ([row, "[1 2 3]"] + ["1"] * 27, True), ([row, "[1 2 3]"] + ["1"] * 28, False),
                             ([book, "{b=1 c=2 d=3}"] + ["a=1"] * 27, True),
                             ([book, "{b=1 c=2 d=3}"] + ["a=1"] * 28, False)]:
            text = ", ".join(pieces)
            if good:
                self.assertEqual(show_call(read_call(text)), text)
            else:
                self.check_refused(read_call, text)

    def test_chance_calls(self):
        dice = random.Random(32)
        for turn in range(300):
            items = []
            for count in range(dice.randrange(8)):
                things = [dice.choice([0, 1, -1, dice.randrange(-GREAT, GREAT)]) for k in range(dice.randrange(8))]
                pairs = [(dice.choice(["a", "bb", "abcdefgh"]), thing) for thing in things]
                items.append(dice.choice([("one", 5), ("row", things), ("named", "q", -5), ("book", pairs)]))
            text = show_call(items)
            self.assertEqual(reckoned_call(text), items)
            self.assertEqual(read_call(text), items)

    def test_a_told_call_above_the_bounds_is_shown(self):
        told = Part(form("c.."), call(30)).whole(call(30))
        text = show_call(told)
        self.assertEqual(text, ", ".join(str(7 + k) for k in list(range(30)) * 2))
        self.check_refused(read_call, text)

    def test_no_texts(self):
        for wrong in NO_TEXTS:
            self.check_refused(read_call, wrong)

    def test_what_stays(self):
        items = [("row", [1, 2]), ("book", [("a", 3)])]
        before = copy.deepcopy(items)
        self.assertEqual([show_call(items), show_call(items)], ["[1 2], {a=3}"] * 2)
        self.assertEqual(items, before)
        told = read_call("[1 2], {a=3}")
        told[0][1].clear()
        told[1][1].append(("b", 4))
        told.clear()
        self.assertEqual(read_call("[1 2], {a=3}"), before)


if __name__ == "__main__":
    unittest.main()
