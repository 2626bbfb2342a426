"""Calls made in parts, and the form that is left behind a part."""

from callbinds.calls import call_of, laid
from callbinds.fitting import first_both, misfits, refuse
from callbinds.forms import told_form
from callbinds.parameters import Tag


class Part:
    """A form, and the first things of a call on it."""

    def __init__(self, form, call):
        refuse_first_things(form, call)
        self.kept_form = form
        # Laid out at once, so that nothing done later to the asker's lists has a bearing on the part.
        things, pairs = laid(call)
        self.things = things
        self.pairs = pairs

    def whole(self, call):
        """Tell the call of the first things and these further ones."""
        things, pairs = laid(call)
        return call_of(self.things + things, self.pairs + pairs)

    def further(self, call):
        """Tell the part of the first things and these further ones, or refuse it."""
        return Part(self.kept_form, self.whole(call))

    def left(self):
        """Tell a form that takes just the further calls with which the whole one fits, or None."""
        return left_behind(self.kept_form, len(self.things), [name for name, thing in self.pairs])


def refuse_first_things(form, call):
    """Refuse by the first misfit that is not lacking: what lacks may come with further things."""
    for word, number in misfits(form, call):
        if word != "lacking":
            refuse(word, number)


def left_behind(form, many, names):
    """Tell the form left behind so many things by place and these names, or None where there is none."""
    stop = first_both(form, names)
    places = form.parameters()[:form.places()]
    beyond = [] if stop is None else places[stop:]
    if any([not one.by_name() and not one.free() for one in beyond]):
        return None
    row = places[many:stop] + tail_left(form, stop) + tags_left(form, beyond, names) + bag_of(form)
    placed = [one.name for one in places[:many] if one.by_name()]
    return told_form(row, form.bars() + placed + names)


def tail_left(form, stop):
    """Tell a list of the tail, or of none where there is none or a both told by name stops what comes by place."""
    if stop is not None or form.tail() is None:
        return []
    return [form.parameters()[form.tail()]]


def tags_left(form, beyond, names):
    """Tell the tags left: what a name leads to, beyond all that comes by place, and has no thing by it."""
    behind = beyond + form.parameters()[form.places():]
    return [Tag(one.name, one.free()) for one in behind if one.by_name() and one.name not in names]


def bag_of(form):
    """Tell a list of the bag, or of none."""
    return [] if form.bag() is None else [form.parameters()[form.bag()]]
