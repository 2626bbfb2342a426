"""What forms take: which names fit beside each number of things by place."""


def table(form):
    """Tell the rows of a form by the number of things by place, and whether the last one tells of all greater ones."""
    rows = [row_of(form, many) for many in range(form.places() + 1)]
    goes_on = form.tail() is not None
    while goes_on and len(rows) > 1 and rows[-1] == rows[-2]:
        rows.pop()
    return (rows, goes_on)


def same_calls(one, other):
    """Tell whether two forms take the same calls."""
    return table(one) == table(other)


def row_of(form, many):
    """Tell which names fit beside so many things by place, at most as many as there are places; None where none do."""
    parameters = form.parameters()
    left = parameters[many:]
    lacking = [parameter for parameter in left if not parameter.free()]
    if any([not parameter.by_name() for parameter in lacking]):
        return None
    needed = sorted([parameter.name for parameter in lacking])
    if form.bag() is None:
        return (needed, False, sorted(door_names(left)))
    return (needed, True, sorted(form.bars() + door_names(parameters[:many])))


def door_names(parameters):
    """Tell the names by which these parameters can be told a thing."""
    return [parameter.name for parameter in parameters if parameter.by_name()]
