"""Functions, read of texts."""

from callbinds.defaults import Anew, Once, Sum, Told
from callbinds.errors import NoDefault, NoText
from callbinds.functions import Function
from callbinds.texts import form_of, pieces, read_number, read_parameter

GREATEST_TIMES = 9


def read_function(text, well):
    """Read a function with this well, or refuse the text with NoText; what is refused draws nothing."""
    parameters = []
    defaults = []
    for piece in pieces(text):
        head, sign, written = piece.partition("=")
        parameters.append(read_parameter(head, sign == "="))
        if sign == "=":
            defaults.append(read_default(written))
    form = form_of(parameters, [])
    try:
        return Function(form, defaults, well)
    except NoDefault:
        raise NoText("a default looks at no thing ahead of it")


def read_default(text):
    """Read a default."""
    if text == "once":
        return Once()
    if text == "anew":
        return Anew()
    if text.startswith("@"):
        return read_sum(text[1:])
    return Told(read_number(text))


def read_sum(text):
    """Read a Sum, without the sign ahead of it."""
    at, star, behind = text.partition("*")
    times, cross, plus = behind.partition("+")
    factor = read_number(times)
    if not -GREATEST_TIMES <= factor <= GREATEST_TIMES:
        raise NoText("a times is none")
    return Sum(read_number(at), factor, read_number(plus))
