"""The eight sorts of covers: they change calls on their way, and have forms over forms."""

from callbinds.calls import call_of, laid
from callbinds.errors import Lacking, NoName, Over, Strange
from callbinds.fitting import misfits_of, refuse_doubled
from callbinds.forms import told_form
from callbinds.names import is_name
from callbinds.parameters import Seat, Tag, parameter_of
from callbinds.parts import bag_of, left_behind, tags_left, tail_left


class Cover:
    """What all eight sorts are; only the eight classes below are made."""


class Ahead(Cover):
    """Puts a thing ahead of all by place."""

    def __init__(self, thing):
        self.thing = thing

    def through(self, call):
        """Tell the call handed on, or refuse it."""
        things, pairs = laid_unlike(call)
        return call_of([self.thing] + things, pairs)

    def over(self, form):
        """Tell a form that takes just the calls that come through and fit, or None."""
        return left_or_none(form, 1, [])


class With(Cover):
    """Puts a thing by a name behind all by name."""

    def __init__(self, name, thing):
        refuse_no_name(name)
        self.name = name
        self.thing = thing

    def through(self, call):
        """Tell the call handed on, or refuse it."""
        things, pairs = laid_unlike(call)
        return call_of(things, pairs + [(self.name, self.thing)])

    def over(self, form):
        """Tell a form that takes just the calls that come through and fit, or None."""
        return left_or_none(form, 0, [self.name])


class Spare(Cover):
    """Puts a thing by a name behind all by name, where the call tells nothing by it."""

    def __init__(self, name, thing):
        refuse_no_name(name)
        self.name = name
        self.thing = thing

    def through(self, call):
        """Tell the call handed on, or refuse it."""
        things, pairs = laid_unlike(call)
        if self.name not in names_of(pairs):
            pairs.append((self.name, self.thing))
        return call_of(things, pairs)

    def over(self, form):
        """Tell a form that takes just the calls that come through and fit, or None."""
        left = left_or_none(form, 0, [self.name])
        if left is None:
            return None
        if form.number_of(self.name) is None:
            # The bag takes the thing, whoever tells it.
            return form
        return with_free_tag(left, self.name)


class Without(Cover):
    """Takes out a thing by a name, where there is one."""

    def __init__(self, name):
        refuse_no_name(name)
        self.name = name

    def through(self, call):
        """Tell the call handed on, or refuse it."""
        things, pairs = laid_unlike(call)
        return call_of(things, [pair for pair in pairs if pair[0] != self.name])

    def over(self, form):
        """Tell a form that takes just the calls that come through and fit, or None."""
        row = form.parameters()
        number = form.number_of(self.name)
        if number is not None and number >= form.places():
            return form if row[number].free() else None
        if number is not None:
            row[number] = seat_of(row[number])
        return with_free_tag(told_form(row, form.bars()), self.name)


class Exchange(Cover):
    """Hands a thing by one name on by another one, and the other way round."""

    def __init__(self, one, other):
        refuse_no_name(one)
        refuse_no_name(other)
        self.one = one
        self.other = other

    def through(self, call):
        """Tell the call handed on, or refuse it."""
        things, pairs = laid_unlike(call)
        return call_of(things, [(self.exchanged(name), thing) for name, thing in pairs])

    def over(self, form):
        """Tell a form that takes just the calls that come through and fit, or None."""
        row = [renamed(parameter, self.exchanged(parameter.name)) for parameter in form.parameters()]
        return told_form(row, [self.exchanged(name) for name in form.bars()])

    def exchanged(self, name):
        """Tell the name by which a thing by this one is handed on."""
        if name == self.one:
            return self.other
        return self.one if name == self.other else name


class Swallow(Cover):
    """Takes out the first thing by place."""

    def through(self, call):
        """Tell the call handed on, or refuse it."""
        things, pairs = laid_unlike(call)
        if not things:
            raise Lacking(0)
        return call_of(things[1:], pairs)

    def over(self, form):
        """Tell a form that takes just the calls that come through and fit, or None."""
        return told_form([Seat("swallow")] + form.parameters(), form.bars())


class ByPlace(Cover):
    """Hands on calls without things by name."""

    def through(self, call):
        """Tell the call handed on, or refuse it."""
        things, pairs = laid_unlike(call)
        if pairs:
            raise Strange(0)
        return call_of(things, pairs)

    def over(self, form):
        """Tell a form that takes just the calls that come through and fit, or None."""
        row = form.parameters()
        if any([not parameter.free() for parameter in row[form.places():]]):
            return None
        return told_form([seat_of(parameter) for parameter in row[:form.places()]] + tail_left(form, None), [])


class ByName(Cover):
    """Hands on calls without things by place."""

    def through(self, call):
        """Tell the call handed on, or refuse it."""
        things, pairs = laid_unlike(call)
        if things:
            raise Over(0)
        return call_of(things, pairs)

    def over(self, form):
        """Tell a form that takes just the calls that come through and fit, or None."""
        places = form.parameters()[:form.places()]
        if any([not parameter.by_name() and not parameter.free() for parameter in places]):
            return None
        return told_form(tags_left(form, places, []) + bag_of(form), form.bars())


def refuse_no_name(name):
    """Refuse what is no name."""
    if not is_name(name):
        raise NoName("the name of a cover is none")


def names_of(pairs):
    """Tell the names of pairs, in order."""
    return [name for name, thing in pairs]


def laid_unlike(call):
    """Lay a call out, or refuse it where a name comes twice."""
    things, pairs = laid(call)
    refuse_doubled(names_of(pairs))
    return (things, pairs)


def left_or_none(form, many, names):
    """Tell the form left behind so many things by place and these names; None where these alone don't fit."""
    if any([word != "lacking" for word, number in misfits_of(form, many, names)]):
        return None
    return left_behind(form, many, names)


def with_free_tag(form, name):
    """Tell the form with a free tag of this name, which is no both and no tag of it, and with no such bar."""
    behind = bag_of(form)
    row = form.parameters()
    ahead = row[:len(row) - len(behind)]
    return told_form(ahead + [Tag(name, True)] + behind, [bar for bar in form.bars() if bar != name])


def seat_of(parameter):
    """Tell a seat that may lack a thing just where this place may."""
    return Seat(parameter.name, parameter.free())


def renamed(parameter, name):
    """Tell a parameter that is this one but for its name."""
    told = parameter.told()
    return parameter_of((told[0], name) + told[2:])
