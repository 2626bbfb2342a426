"""What several tests need: forms and calls written shortly."""

from callbinds.forms import Form
from callbinds.parameters import Bag, Both, Seat, Tag, Tail


def parameter(text):
    """A parameter: a seat `a!`, a both `a`, a tail `a..`, a tag `a:`, a bag `a::`; a `?` behind a free one."""
    free = text.endswith("?")
    text = text[:-1] if free else text
    if text.endswith("!"):
        return Seat(text[:-1], free)
    if text.endswith(".."):
        return Tail(text[:-2])
    if text.endswith("::"):
        return Bag(text[:-2])
    if text.endswith(":"):
        return Tag(text[:-1], free)
    return Both(text, free)


def form(text):
    """A form: its parameters, then its bars, such as `-a`, with blanks between."""
    words = text.split()
    return Form([parameter(word) for word in words if word[0] != "-"], [word[1:] for word in words if word[0] == "-"])


def call(many, names=""):
    """A call of ones and nameds: many things by place, and things by the names in their order."""
    words = names.split()
    return [("one", 7 + i) for i in range(many)] + [("named", word, 40 + j) for j, word in enumerate(words)]


def letters(number):
    """A name of its own for each number from 0 to 675."""
    return "abcdefghijklmnopqrstuvwxyz"[number // 26] + "abcdefghijklmnopqrstuvwxyz"[number % 26]
