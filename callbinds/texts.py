"""Forms and calls, written and read as texts."""

from callbinds.calls import laid
from callbinds.errors import CallError, NoText
from callbinds.forms import Form
from callbinds.names import is_name
from callbinds.parameters import parameter_of

ENDS = {"seat": "!", "both": "", "tail": "..", "tag": ":", "bag": "::"}
SORTS = {"!": "seat", "": "both", "..": "tail", ":": "tag", "::": "bag"}
SIGNS_OF_ENDS = "!.:"
OF_ALL_LEFT_OVER = ("tail", "bag")
FIGURES = "0123456789"
# A whole number that is handed in lies below 10 ** 60.
MOST_FIGURES = 60
MOST_ITEMS = 30
MOST_IN_AN_ITEM = 30
MOST_OF_A_KIND = 60


def show_form(form):
    """Write a form."""
    return ", ".join([show_parameter(one) for one in form.parameters()] + ["-" + name for name in form.bars()])


def show_parameter(parameter):
    """Write a parameter."""
    written = parameter.name + ENDS[parameter.word]
    return written + "?" if parameter.takes_one() and parameter.free() else written


def show_call(call):
    """Write a call."""
    return ", ".join([show_item(item) for item in call])


def show_item(item):
    """Write an item of a call."""
    word = item[0]
    if word == "one":
        return str(item[1])
    if word == "row":
        return show_things(item[1])
    if word == "named":
        return show_pair(item[1], item[2])
    return show_pairs(item[1])


def show_things(things):
    """Write a list of things."""
    return "[" + " ".join([str(thing) for thing in things]) + "]"


def show_pairs(pairs):
    """Write a list of pairs."""
    return "{" + " ".join([show_pair(name, thing) for name, thing in pairs]) + "}"


def show_pair(name, thing):
    """Write a thing by a name."""
    return f"{name}={thing}"


def read_form(text):
    """Read a form, or refuse the text with NoText."""
    parameters = []
    bars = []
    for piece in pieces(text):
        if piece.startswith("-"):
            bars.append(piece[1:])
        elif bars:
            raise NoText("a parameter stands behind a bar")
        else:
            free = piece.endswith("?")
            parameters.append(read_parameter(piece[:-1] if free else piece, free))
    return form_of(parameters, bars)


def pieces(text):
    """Tell the pieces of a text that are parted by a comma and a blank, or refuse what is no text."""
    if not isinstance(text, str):
        raise NoText("what should be read is no text")
    return text.split(", ") if text else []


def read_parameter(text, free):
    """Read a parameter without what is written behind a free one; free tells whether that is there."""
    name = text.rstrip(SIGNS_OF_ENDS)
    word = SORTS.get(text[len(name):])
    if word is None or not is_name(name):
        raise NoText("there is no such parameter")
    if word not in OF_ALL_LEFT_OVER:
        return parameter_of((word, name, free))
    if free:
        raise NoText("a tail and a bag are not written as free ones")
    return parameter_of((word, name))


def form_of(parameters, bars):
    """Make a form, or refuse with NoText what would be refused."""
    try:
        return Form(parameters, bars)
    except CallError:
        raise NoText("there is no such form")


def read_call(text):
    """Read a call, or refuse the text with NoText."""
    call = [read_item(piece) for piece in pieces(text)]
    refuse_too_great(call)
    return call


def read_item(text):
    """Read an item of a call."""
    if text.startswith("[") and text.endswith("]"):
        return ("row", [read_number(word) for word in words_within(text)])
    if text.startswith("{") and text.endswith("}"):
        return ("book", [read_pair(word) for word in words_within(text)])
    if "=" in text:
        name, thing = read_pair(text)
        return ("named", name, thing)
    return ("one", read_number(text))


def words_within(text):
    """Tell the words within brackets, parted by single blanks."""
    inner = text[1:-1]
    return inner.split(" ") if inner else []


def read_pair(text):
    """Read a thing by a name: a tuple (name, thing)."""
    name, sign, number = text.partition("=")
    if not is_name(name):
        raise NoText("there is no such name")
    return (name, read_number(number))


def read_number(text):
    """Read a whole number within the bounds."""
    figures = text[1:] if text.startswith("-") else text
    if not 1 <= len(figures) <= MOST_FIGURES or not all([sign in FIGURES for sign in figures]):
        raise NoText("there is no such number")
    if figures[0] == "0" and text != "0":
        raise NoText("a number has a nought ahead")
    return int(text)


def refuse_too_great(call):
    """Refuse a call of more items or things than one may have."""
    if len(call) > MOST_ITEMS:
        raise NoText("a call has too many items")
    for item in call:
        if item[0] in ("row", "book") and len(item[1]) > MOST_IN_AN_ITEM:
            raise NoText("an item has too many things")
    things, pairs = laid(call)
    if len(things) > MOST_OF_A_KIND or len(pairs) > MOST_OF_A_KIND:
        raise NoText("a call has too many things")
