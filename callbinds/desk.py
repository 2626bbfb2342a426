"""A desk: it keeps forms and functions by names, and answers rows."""

from callbinds.errors import Unknown
from callbinds.fitting import misfits, paper
from callbinds.functions import Function
from callbinds.functiontexts import read_function
from callbinds.mending import mends
from callbinds.parts import Part
from callbinds.rooms import room
from callbinds.rowed import over_all
from callbinds.rows import read_row
from callbinds.standing import parting
from callbinds.tables import same_calls
from callbinds.texts import read_call, read_form, show_form, show_pairs, show_things
from callbinds.wells import Well


def say_form(desk, names, text):
    """Keep a form."""
    return keep_told(desk, names[0], read_form(text))


def say_make(desk, names, text):
    """Keep a function."""
    return keep_told(desk, names[0], read_function(text, desk.well))


def say_show(desk, names, nothing):
    """Answer the text of a form."""
    return show_form(form_by(desk, names[0]))


def say_fits(desk, names, text):
    """Answer whether a call fits a form, or the misfits."""
    form = form_by(desk, names[0])
    found = misfits(form, read_call(text))
    return listed(found) if found else "yes"


def say_paper(desk, names, text):
    """Answer the paper of a form and a call."""
    form = form_by(desk, names[0])
    return listed([plain_entry(entry) for entry in paper(form, read_call(text))])


def say_mend(desk, names, text):
    """Answer the changes with which a call fits a form."""
    form = form_by(desk, names[0])
    return listed(mends(form, read_call(text)))


def say_call(desk, names, text):
    """Answer the values of a function for a call."""
    function = function_by(desk, names[0])
    given = function.answer(read_call(text))
    parameters = function.form().parameters()
    return ", ".join([show_value(one.word, value) for one, value in zip(parameters, given)])


def say_part(desk, names, text):
    """Keep the form that is left behind a part."""
    form = form_by(desk, names[1])
    return keep_told(desk, names[0], Part(form, read_call(text)).left())


def say_cover(desk, names, covers):
    """Keep the form of covers over a form."""
    return keep_told(desk, names[0], over_all(covers, form_by(desk, names[1])))


def say_room(desk, names, asked):
    """Answer how many things by place fit beside names."""
    found = room(form_by(desk, names[0]), asked)
    if found is None:
        return "none"
    low, high = found
    return spoken((low, "on" if high is None else high))


def say_same(desk, names, nothing):
    """Answer whether two forms take the same calls."""
    return "yes" if same_calls(form_by(desk, names[0]), form_by(desk, names[1])) else "no"


def say_stands(desk, names, nothing):
    """Answer whether one form stands for another one, or a call that parts them."""
    found = parting(form_by(desk, names[0]), form_by(desk, names[1]))
    if found is None:
        return "yes"
    many, parting_names = found
    return spoken([many] + parting_names)


DEEDS = {
    "form": say_form, "make": say_make, "show": say_show, "fits": say_fits, "paper": say_paper, "mend": say_mend,
    "call": say_call, "part": say_part, "cover": say_cover, "room": say_room, "same": say_same, "stands": say_stands,
}


class Desk:
    """Forms and functions by names, and a well."""

    def __init__(self):
        self.known = {}
        self.well = Well()

    def say(self, row):
        """Answer a row, or refuse it; what is refused changes nothing."""
        word, names, what_follows = read_row(row)
        deed = DEEDS[word]
        return deed(self, names, what_follows)


def keep_told(desk, name, told):
    """Keep a form or a function by a name, but where there is none."""
    if told is None:
        return "none"
    desk.known[name] = told
    return "ok"


def thing_by(desk, name):
    """Tell the form or the function that has a name."""
    if name not in desk.known:
        raise Unknown("nothing has this name")
    return desk.known[name]


def form_by(desk, name):
    """Tell the form that has a name, or the form of the function that has it."""
    found = thing_by(desk, name)
    return found.form() if isinstance(found, Function) else found


def function_by(desk, name):
    """Tell the function that has a name."""
    found = thing_by(desk, name)
    if not isinstance(found, Function):
        raise Unknown("a form alone has this name")
    return found


def spoken(parts):
    """Write words and numbers with blanks between."""
    return " ".join([str(part) for part in parts])


def listed(rows):
    """Write rows of words and numbers, parted by a comma and a blank."""
    return ", ".join([spoken(row) for row in rows])


def plain_entry(entry):
    """Tell an entry of a paper as one row of a word and numbers."""
    if entry[0] in ("places", "names"):
        return [entry[0]] + entry[1]
    return list(entry)


def show_value(word, value):
    """Write the value of a parameter of this sort."""
    if word == "tail":
        return show_things(value)
    if word == "bag":
        return show_pairs(value)
    return str(value)
