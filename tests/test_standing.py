"""[30], [2], [3]: when one form stands for another one, and calls of as few things as any that part them."""

import itertools
import random
import unittest

from callbinds.covers import Ahead, Exchange, Spare, Swallow, With, Without
from callbinds.fitting import fits
from callbinds.forms import Form
from callbinds.names import is_name
from callbinds.parameters import Bag, Both, Seat, Tag, Tail
from callbinds.parts import Part
from callbinds.rowed import over_all
from callbinds.standing import parting, stands_for
from callbinds.tables import same_calls
from helper import answer_of, call, chance_form, form, letters, small_forms

NAMES = "abtxyz"
# All small calls, those of fewer things first.
SMALL = sorted([(many, names) for many in range(6) for count in range(len(NAMES) + 1)
                for names in itertools.combinations(NAMES, count)], key=lambda asked: asked[0] + len(asked[1]))


def taken(made):
    """Whether each small call fits a form, as the bits of a number."""
    return sum(1 << at for at, (many, names) in enumerate(SMALL) if fits(made, call(many, " ".join(names))))


def fewest_that_part(one_bits, other_bits):
    """Of how few things a small call is that fits the other form and not the one, or None."""
    apart = other_bits & ~one_bits
    if not apart:
        return None
    many, names = SMALL[(apart & -apart).bit_length() - 1]
    return many + len(names)


def reckoned(one, other):
    """The same for forms of any size: with each number of things, the names needed, alone or with one more."""
    known = {told[1] for made in (one, other) for told in made.told()[0]} | set(one.bars() + other.bars()) | {"zzzzz"}
    sizes = []
    for many in range(max(one.places(), other.places()) + 2):
        needed = [told[1] for at, told in enumerate(other.told()[0])
                  if told[0] in ("both", "tag") and not told[2] and not (told[0] == "both" and at < many)]
        for more in [[]] + [[name] for name in sorted(known - set(needed))]:
            asked = call(many, " ".join(needed + more))
            if fits(other, asked) and not fits(one, asked):
                sizes.append(many + len(needed) + len(more))
    return min(sizes, default=None)


class Standing(unittest.TestCase):
    def check_pair(self, one, other, fewest):
        shown = (one.told(), other.told())
        told = parting(one, other)
        self.assertIs(stands_for(one, other), fewest is None, shown)
        if fewest is None:
            self.assertIsNone(told, shown)
            return
        self.assertIs(type(told), tuple)
        many, names = told
        self.assertEqual((type(many), type(names)), (int, list))
        self.assertEqual(names, sorted(set(names)))
        self.assertTrue(all(is_name(name) for name in names))
        self.assertEqual(many + len(names), fewest, (shown, told))
        self.assertIs(fits(other, call(many, " ".join(names))), True, (shown, told))
        self.assertIs(fits(one, call(many, " ".join(names))), False, (shown, told))

    def check(self, one, other, expected):
        self.assertEqual(parting(form(one), form(other)), expected, (one, other))
        self.check_pair(form(one), form(other), None if expected is None else expected[0] + len(expected[1]))

    def test_standing(self):
        for one, other in [("", ""), ("c.. e::", "a! b? t: -x"), ("c.. e::", "c.. e:: -x"), ("a?", "a"), ("a", "a!"),
                           ("a!?", "a!"), ("a? b?", "a?"), ("t:?", "t:"), ("e::", "t: u:"), ("c..", "a! b!"),
                           ("c..", ""), ("t: u:?", "t:"), ("a b", "a! b!"), ("e:: -x", "e:: -x -y"), ("a? e::", "a")]:
            self.check(one, other, None)

    def test_parted_by_one_call(self):
        for one, other, expected in [
                ("", "a!?", (1, [])), ("", "a!", (1, [])), ("a!", "", (0, [])), ("a!", "a", (0, ["a"])),
                ("", "c..", (1, [])), ("a! b!", "c..", (0, [])), ("a!? b!?", "c..", (3, [])), ("t:", "t:?", (0, [])),
                ("", "t:?", (0, ["t"])), ("t:", "u:", (0, ["u"])), ("t:?", "u: t:", (0, ["t", "u"])),
                ("a b", "b a", (1, ["a"])), ("e:: -x", "e::", (0, ["x"])), ("e:: -x", "t: e::", (0, ["t", "x"])),
                ("a e::", "e::", (0, [])), ("a? e:: -x", "b? e::", (0, ["x"]))]:
            self.check(one, other, expected)

    def test_a_strange_name_parts_them(self):
        for one, other, many, more in [("", "e::", 0, []), ("a? t:?", "e::", 0, []), ("t:?", "t: e::", 0, ["t"]),
                                       ("a!", "a! e::", 1, []), ("c.. t:?", "c.. e:: -t", 0, [])]:
            told_many, names = parting(form(one), form(other))
            self.assertEqual((told_many, len(names)), (many, len(more) + 1))
            self.assertEqual([name for name in more if name not in names], [])
            self.check_pair(form(one), form(other), many + len(more) + 1)

    def test_the_fewest_of_several(self):
        self.check("a! b! c! d", "a! b! c! d? e!?", (3, []))
        self.check("a! b! t:? u:? v:?", "a! b! t:? u:? v:? w:?", (2, ["w"]))
        self.check("a? b? c? d!?", "a? b? c? d?", (0, ["d"]))
        self.check("a! b! c! d! e!", "a? b? c? d? e? f..", (0, []))
        self.check("a? b? c?", "a? b? c? d..", (4, []))
        self.check("a? b? c? -x", "a? b? c? d.. x:?", (0, ["x"]))

    def test_small_forms(self):
        forms = list(small_forms())
        bits = [taken(made) for made in forms]
        dice = random.Random(30)
        standing = 0
        for turn in range(9000):
            first, second = dice.randrange(len(forms)), dice.randrange(len(forms))
            fewest = fewest_that_part(bits[first], bits[second])
            self.check_pair(forms[first], forms[second], fewest)
            standing += fewest is None
        self.assertGreater(standing, 200)
        for first in range(0, len(forms), 3):
            self.check_pair(forms[first], forms[first], None)

    def test_forms_that_differ_in_one_thing(self):
        dice = random.Random(31)
        standing = 0
        for turn in range(150):
            names = "abx"
            places = [dice.choice([Seat, Both])(names[at], dice.random() < 0.5) for at in range(dice.randrange(4))]
            tail = [Tail("a")] * dice.randrange(2)
            tags = [Tag(name, dice.random() < 0.5) for name in "tx" if name not in names[:len(places)]]
            bag = [Bag("b")] * dice.randrange(2)
            made = Form(places + tail + tags + bag, ["z"] * dice.randrange(2))
            bits = taken(made)
            for close in self.close_forms(places, tail, tags, bag, made.bars()):
                closes = taken(close)
                for one, other, first, second in [(made, close, bits, closes), (close, made, closes, bits)]:
                    fewest = fewest_that_part(first, second)
                    self.check_pair(one, other, fewest)
                    standing += fewest is None
        self.assertGreater(standing, 300)

    def close_forms(self, places, tail, tags, bag, bars):
        """Forms in which one parameter or one bar is gone, put in, or is another one."""
        found = [Form(places + tail + tags + bag, [] if bars else ["z"])]
        found.append(Form(places + ([] if tail else [Tail("q")]) + tags + bag, bars))
        found.append(Form(places + tail + tags + ([] if bag else [Bag("q")]), bars))
        for at, one in enumerate(places):
            kind = Both if one.told()[0] == "seat" else Seat
            others = [[type(one)(one.name, not one.free())], [kind(one.name, one.free())], []]
            found.extend([Form(places[:at] + other + places[at + 1:] + tail + tags + bag, bars) for other in others])
        for at, one in enumerate(tags):
            for other in [[Tag(one.name, not one.free())], []]:
                found.append(Form(places + tail + tags[:at] + other + tags[at + 1:] + bag, bars))
        return found

    def test_forms_that_are_told(self):
        dice = random.Random(32)
        texts = ["a! b t: e:: -x", "a b? c!? t:?", "a? b? d.. t:", "a b e:: -x", "d..", "t:? e::"]
        told = [form(text) for text in texts]
        for text in texts:
            for many, names in itertools.product(range(2), ["", "t", "b", "y"]):
                part = answer_of(Part, form(text), call(many, names))
                told.append(part.left() if isinstance(part, Part) else None)
            for count in range(3):
                covers = dice.sample([Swallow(), Without("a"), Exchange("a", "x"), Spare("b", 0), Ahead(0),
                                      With("y", 0)], count + 1)
                told.append(over_all(covers, form(text)))
        told = [made for made in told if made is not None]
        bits = [taken(made) for made in told]
        for first, second in itertools.product(range(len(told)), repeat=2):
            self.check_pair(told[first], told[second], fewest_that_part(bits[first], bits[second]))

    def test_both_ways_is_the_same_calls(self):
        forms = list(itertools.islice(small_forms(), 0, None, 7))
        forms += [form(text) for text in ["z! b!", "a! b!", "t:? e::", "e::", "u:? t:", "t: u:?", "c.. -q"]]
        for one, other in itertools.product(forms, repeat=2):
            self.assertIs(stands_for(one, other) and stands_for(other, one), same_calls(one, other))

    def test_great_forms(self):
        dice = random.Random(33)
        standing = 0
        for turn in range(30):
            made = chance_form(dice)
            parameters, bars = made.parameters(), made.bars()
            at = dice.randrange(len(parameters) + 1)
            others = [chance_form(dice), Form(parameters[:at] + parameters[at + 1:], bars),
                      Form(parameters, bars[:-1])]
            for other in others:
                for one, two in [(made, other), (other, made)]:
                    fewest = reckoned(one, two)
                    self.check_pair(one, two, fewest)
                    standing += fewest is None
            self.check_pair(made, Form(parameters, bars), None)
        self.assertGreater(standing, 20)

    def test_the_bounds(self):
        names = [letters(k) for k in range(60)]
        boths = [Both("b" + name) for name in names[:23]]
        made = Form(boths + [Bag("e")], names)
        self.check_pair(made, made, None)
        self.check_pair(Form(boths + [Bag("e")], names[1:]), made, None)
        self.check_pair(made, Form(boths + [Bag("e")], names[1:]), 24)
        self.check_pair(Form([Tail("c"), Bag("e")], names), made, None)
        self.check_pair(made, Form([Tail("c"), Bag("e")], names), 0)
        self.check_pair(Form(boths, names), Form(boths + [Bag("e")], names), 24)
        self.assertEqual(parting(Form([Seat(name) for name in names[:24]]), Form([Seat(name) for name in names[:23]])),
                         (23, []))

    def test_many_known_names(self):
        """A strange name is found, whatever many names the forms have."""
        taken_names = [sign for sign in "abcdefghijklmnopqrstuvwxyz"] + [letters(k) for k in range(34)]
        closed, opened = Form([Tag(name, True) for name in taken_names[:24]]), Form([Bag("e")], taken_names)
        self.check_pair(closed, opened, 1)
        once = Part(opened, call(0, " ".join(letters(k) for k in range(34, 94)))).left()
        again = Part(once, call(0, " ".join(letters(k) for k in range(94, 154)))).left()
        self.check_pair(closed, again, 1)
        many, names = parting(closed, again)
        self.assertNotIn(names[0], taken_names + [letters(k) for k in range(154)])

    def test_what_stays(self):
        one, other = form("a! b? t: -x"), form("a! b t: u: e:: -x")
        told = parting(one, other)
        kept = (told[0], list(told[1]))
        told[1].clear()
        self.assertEqual(parting(one, other), kept)
        self.assertEqual((one.told(), other.told()), (form("a! b? t: -x").told(), form("a! b t: u: e:: -x").told()))


if __name__ == "__main__":
    unittest.main()
