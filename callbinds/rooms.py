"""How many things by place fit beside told names."""

from callbinds.fitting import fewest_by_place, first_both, misfits_of


def room(form, names):
    """Tell the least and the greatest number of things by place with which just these names fit, or None."""
    if names_never_fit(form, names):
        return None
    low = fewest_by_place(form, names)
    high = most_by_place(form, names)
    if high is not None and high < low:
        return None
    return (low, high)


def names_never_fit(form, names):
    """Tell whether these names fit with no number of things by place: one is not taken, or a tag lacks its own."""
    # Without things by place, all that is amiss stays so with any number of them, but for lacking places.
    return any([word != "lacking" or number >= form.places() for word, number in misfits_of(form, 0, names)])


def most_by_place(form, names):
    """Tell the greatest number of things by place beside these names, or None where there is none."""
    told = first_both(form, names)
    if told is not None:
        return told
    if form.tail() is not None:
        return None
    return form.places()
