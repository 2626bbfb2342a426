"""Functions: forms with what comes to the parameters that are left out."""

from callbinds.calls import laid
from callbinds.defaults import Once, Sum, Told
from callbinds.errors import NoDefault
from callbinds.fitting import paper


class Function:
    """A form, a default for each of its free seats, boths and tags, and a well."""

    def __init__(self, form, defaults, well):
        refuse_defaults(form, defaults)
        # The method form has this word already, so the value bears another one.
        self.kept_form = form
        self.well = well
        self.defaults = settled(form, defaults, well)

    def form(self):
        """Tell its form."""
        return self.kept_form

    def answer(self, call):
        """Tell the value of each parameter for a call, or refuse by the first misfit."""
        entries = paper(self.kept_form, call)
        things, pairs = laid(call)
        given = []
        for number, entry in enumerate(entries):
            if entry == ("free",):
                given.append(self.left_out(number, given))
            else:
                given.append(handed_on(entry, things, pairs))
        return given

    def left_out(self, number, given):
        """Tell what the default of a parameter gives, where those ahead of it were given this."""
        default = self.defaults[number]
        if isinstance(default, Told):
            return default.number
        if isinstance(default, Sum):
            return default.times * given[default.at] + default.plus
        return self.well.draw()


def free_numbers(form):
    """Tell the numbers of the free seats, boths and tags."""
    parameters = form.parameters()
    return [number for number, one in enumerate(parameters) if one.takes_one() and one.free()]


def refuse_defaults(form, defaults):
    """Refuse too few defaults, too many, and Sums that don't look at one thing ahead of them."""
    numbers = free_numbers(form)
    if len(defaults) < len(numbers):
        raise NoDefault(numbers[len(defaults)])
    if len(defaults) > len(numbers):
        raise NoDefault(len(form.parameters()))
    for number, default in zip(numbers, defaults):
        if isinstance(default, Sum) and (not 0 <= default.at < number or default.at == form.tail()):
            raise NoDefault(number)


def settled(form, defaults, well):
    """Tell the default of each free number; what is drawn once is drawn, and a told number from now on."""
    found = {}
    for number, default in zip(free_numbers(form), defaults):
        found[number] = Told(well.draw()) if isinstance(default, Once) else default
    return found


def handed_on(entry, things, pairs):
    """Tell what an entry hands on, of the things of a call laid out."""
    word, at = entry
    if word == "place":
        return things[at]
    if word == "name":
        return pairs[at][1]
    if word == "places":
        return [things[number] for number in at]
    return [pairs[number] for number in at]
