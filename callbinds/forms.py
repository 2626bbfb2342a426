"""Forms: the parameters that take the things of a call, and the names that no call may tell."""

from callbinds.errors import BadOrder, NoName, TooMany, Twice
from callbinds.names import is_name

MOST_PARAMETERS = 24
MOST_BARS = 60
GROUPS = {"seat": 0, "both": 0, "tail": 1, "tag": 2, "bag": 3}
# Of a tail and of a bag a form has one at most.
SINGLE_GROUPS = (1, 3)


class Form:
    """A list of parameters, numbered from 0, and bars."""

    def __init__(self, parameters, bars=None):
        names = [] if bars is None else bars
        refuse_too_many(parameters, names)
        refuse_bad_order(parameters)
        refuse_bars_without_name(names)
        refuse_twice(parameters, names)
        self.keep(parameters, names)

    def keep(self, parameters, bars):
        """Take on these parameters and bars, which are in order."""
        # Copies, so that nothing done later to the asker's lists has a bearing on the form.
        self.row = list(parameters)
        self.bar_names = list(bars)
        self.place_count = len([parameter for parameter in self.row if parameter.by_place()])
        self.tail_number = number_of_word(self.row, "tail")
        self.bag_number = number_of_word(self.row, "bag")
        self.doors = {parameter.name: at for at, parameter in enumerate(self.row) if parameter.by_name()}

    def parameters(self):
        """Tell its parameters, in order."""
        return list(self.row)

    def bars(self):
        """Tell its bars, in the order handed in."""
        return list(self.bar_names)

    def places(self):
        """Tell how many places it has."""
        return self.place_count

    def tail(self):
        """Tell the number of its tail, or None."""
        return self.tail_number

    def bag(self):
        """Tell the number of its bag, or None."""
        return self.bag_number

    def number_of(self, name):
        """Tell the number of the both or the tag that has this name, or None."""
        return self.doors.get(name)

    def told(self):
        """Tell it as a tuple: the parameters' tuples, and the bars."""
        return ([parameter.told() for parameter in self.row], list(self.bar_names))


def told_form(parameters, bars):
    """Make a form that is told of another one: how many parameters and bars it has is not looked at."""
    form = Form([])
    form.keep(parameters, bars)
    return form


def refuse_too_many(parameters, bars):
    """Refuse more parameters or bars than a form may have."""
    if len(parameters) > MOST_PARAMETERS:
        raise TooMany("more parameters than a form may have")
    if len(bars) > MOST_BARS:
        raise TooMany("more bars than a form may have")


def refuse_bad_order(parameters):
    """Refuse a parameter behind one of a later group, a second tail and a second bag."""
    last = 0
    for at, parameter in enumerate(parameters):
        group = GROUPS[parameter.word]
        if group < last or (group == last and group in SINGLE_GROUPS):
            raise BadOrder(at)
        last = group


def refuse_bars_without_name(bars):
    """Refuse a bar that is no name."""
    for bar in bars:
        if not is_name(bar):
            raise NoName("a bar is no name")


def refuse_twice(parameters, bars):
    """Refuse two alike names among those of the boths, the tags and the bars."""
    seen = set()
    for name in [parameter.name for parameter in parameters if parameter.by_name()] + list(bars):
        if name in seen:
            raise Twice(name)
        seen.add(name)


def number_of_word(parameters, word):
    """Tell the number of the parameter of this sort, or None; at most one is there."""
    for at, parameter in enumerate(parameters):
        if parameter.word == word:
            return at
    return None
