"""When one form takes all the calls of another one, and calls that part them."""

from callbinds.names import LETTERS
from callbinds.tables import row_of


def stands_for(one, other):
    """Tell whether each call that fits the other form fits the one."""
    return parting(one, other) is None


def parting(one, other):
    """Tell a call of as few things as any that fits the other form and not the one: (many, names), or None."""
    found = []
    # Beyond the places of both forms one number of things is as good as any, and the least one is nearest.
    for many in range(max(one.places(), other.places()) + 2):
        names = parting_names(row_at(one, many), row_at(other, many))
        if names is not None:
            found.append((many, names))
    return min(found, key=things_in, default=None)


def things_in(parted):
    """Tell how many things a parting call has."""
    many, names = parted
    return many + len(names)


def row_at(form, many):
    """Tell which names fit beside any number of things by place; None where none do."""
    if many <= form.places():
        return row_of(form, many)
    return None if form.tail() is None else row_of(form, form.places())


def parting_names(one_row, other_row):
    """Tell as few names as any that the other row takes and the one does not, sorted, or None."""
    if other_row is None:
        return None
    needed = other_row[0]
    if one_row is None or not takes(one_row, needed):
        return needed
    for name in names_to_try(one_row, other_row):
        if may_have(other_row, name) and not may_have(one_row, name):
            return sorted(needed + [name])
    return None


def takes(row, names):
    """Tell whether just these names fit by a row."""
    return all([name in names for name in row[0]]) and all([may_have(row, name) for name in names])


def may_have(row, name):
    """Tell whether a call that fits by a row may have this name."""
    needed, has_bag, names = row
    return (name in names) != has_bag


def names_to_try(one_row, other_row):
    """Tell the names that the rows tell of, and one more, in whose place any other one could stand."""
    known = one_row[2] + other_row[2]
    return known + [strange_name(known)]


def strange_name(known):
    """Tell a name that is none of these."""
    number = 0
    while numbered_name(number) in known:
        number += 1
    return numbered_name(number)


def numbered_name(number):
    """Tell a name that no other number has, written by letters as figures."""
    rest, at = divmod(number, len(LETTERS))
    name = LETTERS[at]
    while rest:
        rest, at = divmod(rest, len(LETTERS))
        name = LETTERS[at] + name
    return name
