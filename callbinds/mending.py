"""With how few changes a call comes to one that fits, and such changes."""

from callbinds.fitting import fewest_by_place, misfits_of, shape


def nearest(form, call):
    """Tell with how few changes a call comes to one that fits."""
    return len(mends(form, call))


def mends(form, call):
    """Tell as few changes as any that, made in turn, lead from a call to one that fits."""
    many, names = shape(call)
    return min([mends_to(form, wanted, many, names) for wanted in wanted_numbers(form, many)], key=len)


def wanted_numbers(form, many):
    """Tell the numbers of things by place with which some call fits, but those that are never nearest."""
    doors = [parameter.name for parameter in form.parameters() if parameter.by_name()]
    most = form.places()
    if form.tail() is not None:
        # What lies above both asks for more changes, and gives nothing for them.
        most = max(most, many)
    return list(range(fewest_by_place(form, doors), most + 1))


def mends_to(form, wanted, many, names):
    """Tell the changes that lead to a call that fits, with the wanted number of things by place."""
    changes = [("less",)] * (many - wanted) + [("more",)] * (wanted - many)
    for word, number in misfits_of(form, wanted, names):
        if word == "lacking":
            changes.append(("in", form.parameters()[number].name))
        else:
            changes.append(("out", names[number]))
    return changes
