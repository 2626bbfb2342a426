"""[32], [2]: the texts of functions, and what is refused with NoText and draws nothing."""

import random
import re
import string
import unittest

from callbinds import errors
from callbinds.defaults import Anew, Once, Sum, Told
from callbinds.forms import Form
from callbinds.functions import Function
from callbinds.functiontexts import read_function
from callbinds.parameters import Bag, Both, Seat, Tag, Tail
from callbinds.wells import Well
from helper import answer_of, call, form, letters

GREAT = 10 ** 60 - 1
NUMBER = r"(0|-?[1-9][0-9]{0,59})"
PARAMETER = re.compile(r"([a-z]{1,8})(?:(!|:|)(?:=([^,]*))?|(\.\.|::))")
SUM = re.compile(rf"@{NUMBER}\*{NUMBER}\+{NUMBER}")
SIGNS = string.printable[:95] + "\n\t"


def reckoned_default(text):
    """A second reading of a default, or None."""
    if text in ("once", "anew"):
        return Once() if text == "once" else Anew()
    if re.fullmatch(NUMBER, text):
        return Told(int(text))
    found = SUM.fullmatch(text)
    if found is None:
        return None
    at, times, plus = [int(number) for number in found.groups()]
    return Sum(at, times, plus) if -9 <= times <= 9 else None


def reckoned(text, well):
    """A second reading of a function, or None."""
    parameters, defaults = [], []
    for piece in text.split(", ") if text else []:
        found = PARAMETER.fullmatch(piece)
        if found is None:
            return None
        name, end, default, left_over = found.groups()
        if left_over:
            parameters.append(Tail(name) if left_over == ".." else Bag(name))
        else:
            parameters.append({"!": Seat, "": Both, ":": Tag}[end](name, default is not None))
        if default is not None:
            defaults.append(reckoned_default(default))
    if None in defaults:
        return None
    try:
        return Function(Form(parameters, []), defaults, well)
    except errors.CallError:
        return None


class Read(unittest.TestCase):
    def check(self, text, expected, asked, values, draws=0):
        """The form as a short text, the values for a call, and how many numbers were drawn then."""
        well = Well(100)
        function = read_function(text, well)
        self.assertIs(type(function), Function)
        self.assertEqual(function.form().told(), form(expected).told())
        self.assertEqual(function.answer(asked), values)
        self.assertEqual(well.ahead(), 100 + draws)

    def test_without_defaults(self):
        self.check("", "", [], [])
        self.check("a!, b, c.., d:, e::", "a! b c.. d: e::", call(3, "y d"), [7, 8, [9], 41, [("y", 40)]])
        self.check("c..", "c..", call(2), [[7, 8]])
        self.check("once, anew:", "once anew:", call(1, "anew"), [7, 40])

    def test_a_told(self):
        self.check("a!=5", "a!?", [], [5])
        self.check("a=-5", "a?", [], [-5])
        self.check("a:=0", "a:?", [], [0])
        self.check("a:=0", "a:?", call(0, "a"), [40])
        self.check(f"a={GREAT}, b=-{GREAT}", "a? b?", [], [GREAT, -GREAT])

    def test_a_once(self):
        self.check("a!=once, b=once, c:=once", "a!? b? c:?", [], [100, 101, 102], 3)
        self.check("a!=once, b=once, c:=once", "a!? b? c:?", call(2, "c"), [7, 8, 40], 3)

    def test_an_anew(self):
        self.check("a!=anew, b=anew, c:=anew", "a!? b? c:?", [], [100, 101, 102], 3)
        self.check("a!=anew, b=anew, c:=anew", "a!? b? c:?", call(1), [7, 100, 101], 2)
        self.check("a!=anew, b=once", "a!? b?", [], [101, 100], 2)

    def test_a_sum(self):
        self.check("a!, b=@0*2+-3", "a! b?", call(1), [7, 11])
        self.check("a, b!=@0*1+1, c:=@1*3+0", "a b!? c:?", call(1), [7, 8, 24])
        self.check("a=5, b=@0*0+9", "a? b?", [], [5, 9])
        self.check(f"a=-{GREAT}, b=@0*9+{GREAT}", "a? b?", [], [-GREAT, -8 * GREAT])
        for times in range(-9, 10):
            for plus in [0, 1, -1, GREAT, -GREAT]:
                self.check(f"a, b:=@0*{times}+{plus}", "a b:?", call(1), [7, 7 * times + plus])

    def test_all_four_at_all_sorts(self):
        for end in ["!", "", ":"]:
            text = ", ".join(f"{name}{end}={default}" for name, default in
                             [("a", "4"), ("b", "once"), ("c", "anew"), ("d", "@2*2+1")])
            self.check(text, f"a{end}? b{end}? c{end}? d{end}?", [], [4, 100, 101, 203], 2)

    def test_behind_a_tail(self):
        self.check("a!, c.., t:=@0*2+0, u:=@2*2+0, e::", "a! c.. t:? u:? e::", call(2), [7, [8], 14, 28, []])

    def test_great_functions(self):
        names = [letters(k) for k in range(24)]
        text = ", ".join([f"{names[0]}=1"] + [f"{name}=@{at}*9+1" for at, name in enumerate(names[1:])])
        values = [1]
        for name in names[1:]:
            values.append(values[-1] * 9 + 1)
        self.check(text, "? ".join(names) + "?", [], values)

    def test_the_well_that_is_handed_in(self):
        well = Well(-3)
        first, second = read_function("a=once, b=anew", well), read_function("a=once", well)
        self.assertEqual([second.answer([]), first.answer([]), first.answer([])], [[-2], [-3, -1], [-3, 0]])
        self.assertEqual(well.ahead(), 1)

    def test_what_a_call_is_refused_by(self):
        function = read_function("a!, b=1", Well())
        self.assertEqual(answer_of(function.answer, []), (errors.Lacking, 0))
        self.assertEqual(answer_of(function.answer, call(3)), (errors.Over, 2))


class Refused(unittest.TestCase):
    def check_refused(self, text):
        well = Well(100)
        with self.assertRaises(errors.CallError) as taken:
            read_function(text, well)
        self.assertIs(type(taken.exception), errors.NoText, repr(text))
        self.assertEqual(well.ahead(), 100, repr(text))

    def test_bars_and_free_ones_without_a_default(self):
        for text in ["-x", "a, -x", "a=once, -x", "a?", "a!?", "a:?", "b=once, a?", "a?=1", "a=1?", "a=?", "a="]:
            self.check_refused(text)

    def test_defaults_at_tails_and_bags(self):
        for text in ["c..=1", "e::=1", "c..=once", "e::=anew", "b=once, e::=@0*1+1", "c..=", "e::="]:
            self.check_refused(text)

    def test_times_that_are_none(self):
        for times in [10, -10, 11, 99, GREAT, -GREAT, 10 ** 60]:
            self.check_refused(f"z=once, a, b=@1*{times}+0")

    def test_what_is_no_number(self):
        for wrong in ["00", "01", "-0", "-01", "+1", "", "-", " 1", "1 ", "1.0", "x", "--1", str(10 ** 60),
                      str(-(10 ** 60)), "9" * 5000]:
            for text in ["z=once, a={}", "z=once, a=@{}*1+1", "z=once, a=@0*{}+1", "z=once, a=@0*1+{}"]:
                self.check_refused(text.format(wrong))

    def test_what_is_no_default(self):
        for default in ["Once", "ONCE", "onc", "oncee", "once ", " once", "anew()", "new", "@", "@0", "@0*1", "@0+1",
                        "0*1+1",
                        "@0*1+1+1", "@0*1*1+1", "@@0*1+1", "@0 *1+1", "@0* 1+1", "@0*1+ 1", "@0*1-1", "@0*1+1 ",
                        "@+1*1", "@*+", "@a*1+1", "once=1", "=1", "[1]", "{}", "told", "1, "]:
            self.check_refused("z=once, a=" + default)

    def test_a_sum_of_no_thing_ahead(self):
        for text in ["a=@0*1+1", "a=@-1*1+1", "z=once, a=@1*1+1", "z=once, a=@2*1+1, b", "c.., t:=@0*1+1",
                     "a, b=once, c=@3*1+0, e::", "a, c.., t:=@1*1+1", f"z=once, a=@{GREAT}*1+1",
                     f"z=once, a=@-{GREAT}*1+1", "a, t:=@2*1+1, e::"]:
            self.check_refused(text)

    def test_forms_that_are_refused(self):
        names = [letters(k) for k in range(25)]
        for text in ["t:=once, a", "c.., a=once", "c.., d..", "e::, f::", "e::, t:=once", "a=once, a", "a=once, a:=1",
                     "t:=once, t:", ", ".join(name + "=once" for name in names), ", ".join(names)]:
            self.check_refused(text)

    def test_no_functions(self):
        for text in [" ", ",", ", ", "a,", "a, ", ", a", "a,b", "a ,b", "a,  b", " a", "a ", "a =1", "a= 1", "a\n",
                     "A=1",
                     "a1=1", "abcdefghi=1", "=1", "=", "a!!=1", "a:!=1", "a.=1", "a:::", "a=1,b=2", "1", "a=1;b=2"]:
            self.check_refused(text)

    def test_no_texts(self):
        for wrong in [None, True, False, 0, 1, -3, [], ["a"], (), ("a",), {}, {"a": 1}, set(), b"", b"a", object()]:
            self.check_refused(wrong)

    def test_close_texts(self):
        found = 0
        for text in ["", "a!=5, b=once, c.., t:=@0*-2+-3, u:, e::", "a=anew, b:=@0*9+10", "abcdefgh!=0"]:
            for close in self.close_texts(text):
                well, other = Well(7), Well(7)
                expected = reckoned(close, other)
                if expected is None:
                    self.check_refused(close)
                    continue
                found += 1
                told = read_function(close, well)
                self.assertEqual(told.form().told(), expected.form().told())
                for asked in [[], call(1), call(2, "u"), call(0, "u"), call(1, "a"), call(2, "t u y")]:
                    self.assertEqual(answer_of(told.answer, asked), answer_of(expected.answer, asked), close)
                    self.assertEqual(well.ahead(), other.ahead())
        self.assertGreater(found, 300)

    def close_texts(self, text):
        for at in range(len(text) + 1):
            for sign in SIGNS:
                yield text[:at] + sign + text[at:]
                yield text[:at] + sign + text[at + 1:]
            yield text[:at] + text[at + 1:]

    def test_chance_functions(self):
        dice = random.Random(33)
        good = 0
        for turn in range(600):
            defaults = ["", "", "=once", "=anew", "=4", "=@0*2+1", "=@1*-1+0", "=@2*3+4"]
            places = [name + dice.choice(["", "!"]) + dice.choice(defaults) for name in "abc"[:dice.randrange(4)]]
            tail = ["c.."] * dice.randrange(2)
            tags = [name + ":" + dice.choice(defaults) for name in "tu"[:dice.randrange(3)]]
            text = ", ".join(places + tail + tags + ["e::"] * dice.randrange(2))
            well, other = Well(7), Well(7)
            expected = reckoned(text, other)
            if expected is None:
                self.check_refused(text)
                continue
            good += 1
            told = read_function(text, well)
            for asked in [[], call(1), call(3), call(2, "t u"), call(4, "u"), call(1, "b t u")]:
                self.assertEqual(answer_of(told.answer, asked), answer_of(expected.answer, asked), text)
                self.assertEqual(well.ahead(), other.ahead())
        self.assertGreater(good, 200)


if __name__ == "__main__":
    unittest.main()
