"""What several tests need: forms and calls written shortly, and many small ones."""

import itertools

from callbinds import errors
from callbinds.changes import changed
from callbinds.forms import Form
from callbinds.parameters import Bag, Both, Seat, Tag, Tail

CLASSES = {"doubled": errors.Doubled, "over": errors.Over, "barred": errors.Barred, "again": errors.Again,
           "strange": errors.Strange, "lacking": errors.Lacking}


def parameter(text):
    """A parameter: a seat `a!`, a both `a`, a tail `a..`, a tag `a:`, a bag `a::`; a `?` behind a free one."""
    free = text.endswith("?")
    text = text[:-1] if free else text
    if text.endswith("!"):
        return Seat(text[:-1], free)
    if text.endswith(".."):
        return Tail(text[:-2])
    if text.endswith("::"):
        return Bag(text[:-2])
    if text.endswith(":"):
        return Tag(text[:-1], free)
    return Both(text, free)


def form(text):
    """A form: its parameters, then its bars, such as `-a`, with blanks between."""
    words = text.split()
    return Form([parameter(word) for word in words if word[0] != "-"], [word[1:] for word in words if word[0] == "-"])


def call(many, names=""):
    """A call of ones and nameds: many things by place, and things by the names in their order."""
    words = names.split()
    return [("one", 7 + i) for i in range(many)] + [("named", word, 40 + j) for j, word in enumerate(words)]


def answer_of(deed, *handed):
    """What a def tells, or the class and the number of its refusal."""
    try:
        return deed(*handed)
    except errors.Misfit as refused:
        return (type(refused), refused.number)


def behind(asked, changes):
    """The call behind all these changes."""
    for change in changes:
        asked = changed(asked, change)
    return asked


def letters(number):
    """A name of its own for each number from 0 to 675."""
    return "abcdefghijklmnopqrstuvwxyz"[number // 26] + "abcdefghijklmnopqrstuvwxyz"[number % 26]


def small_forms():
    """All forms of at most two places, and of a tail, a tag, a bag, a bar or not."""
    ends = list(itertools.product([[], [Tail("a")]], [[], [Tag("t")], [Tag("t", True)]], [[], [Bag("b")]], [[], ["x"]]))
    for many in range(3):
        for sorts in itertools.product([(Seat, False), (Seat, True), (Both, False), (Both, True)], repeat=many):
            places = [kind("ab"[at], free) for at, (kind, free) in enumerate(sorts)]
            for tail, tags, bag, bars in ends:
                yield Form(places + tail + tags + bag, bars)


def small_names():
    for many in range(3):
        yield from itertools.product("abtxy", repeat=many)
    yield from [("a", "a", "a"), ("a", "b", "a"), ("x", "y", "t"), ("b", "a", "t"), ("x", "x", "y"), ("y", "a", "y")]


def chance_form(dice):
    """A form of up to 24 parameters and 60 bars; its names are among those of `chance_names`."""
    names = [letters(k) for k in range(90)]
    dice.shuffle(names)
    # A low chance of each sort makes forms in which one sort comes often.
    seats, frees = dice.choice([0.1, 0.5, 0.9]), dice.choice([0.1, 0.5, 0.9])
    places = []
    for name in names[:dice.randrange(13)]:
        places.append((Seat if dice.random() < seats else Both)(name, dice.random() < frees))
    tail = [Tail("t")] * dice.randrange(2)
    tags = [Tag(name, dice.random() < frees) for name in names[13:13 + dice.randrange(11)]]
    bag = [Bag("b")] * dice.randrange(2)
    return Form(places + tail + tags + bag, names[24:24 + dice.choice([0, 3, 20, 60])])


def chance_names(dice, made, doubles):
    """Names for a call on this form, most of them such that it has; names come twice where doubles is True."""
    parameters, bars = made.told()
    known = [told[1] for told in parameters if told[0] in ("both", "tag")]
    pool = known * dice.choice([0, 1, 1]) + dice.sample(bars, min(len(bars), dice.choice([0, 0, 0, 2])))
    pool += [letters(k) for k in dice.sample(range(100, 140), dice.choice([0, 0, 1, 5]))]
    if doubles:
        pool += pool[:dice.choice([0, 1, 4])]
    dice.shuffle(pool)
    return pool[:dice.choice([len(pool), len(pool) // 2, 1])]


def stands_as_a_form(told):
    """Whether the parameters and the bars of a told form, of whatever many, are such as a form may have."""
    parameters, bars = told.told()
    groups = [["seat", "both"], ["tail"], ["tag"], ["bag"]]
    numbers = [at for word, *rest in parameters for at, group in enumerate(groups) if word in group]
    names = [one[1] for one in parameters if one[0] in ("both", "tag")] + bars
    return (numbers == sorted(numbers) and numbers.count(1) < 2 and numbers.count(3) < 2
            and len(names) == len(set(names)))
