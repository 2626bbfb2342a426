"""Whether a call fits a form, and where each of its things goes.

All of it hangs on how many things by place a call has and on its names in their order alone.
"""

from callbinds.calls import laid
from callbinds.errors import Again, Barred, Doubled, Lacking, Over, Strange


def misfits(form, call):
    """Tell the misfits of a form and a call, tuples (word, number), in their order."""
    many, names = shape(call)
    return misfits_of(form, many, names)


def fits(form, call):
    """Tell whether a call fits a form."""
    return misfits(form, call) == []


def paper(form, call):
    """Tell an entry for each parameter, or refuse by the first misfit."""
    many, names = shape(call)
    found = misfits_of(form, many, names)
    if found:
        word, number = found[0]
        refuse(word, number)
    firsts = first_numbers(names)
    return [entry(form, at, many, firsts) for at in range(len(form.parameters()))]


def shape(call):
    """Tell how many things by place a call has, and its names in order."""
    things, pairs = laid(call)
    return (len(things), [name for name, thing in pairs])


def first_numbers(names):
    """Tell for each name the number of the first thing by it; in the order of these numbers."""
    firsts = {}
    for number, name in enumerate(names):
        if name not in firsts:
            firsts[name] = number
    return firsts


def misfits_of(form, many, names):
    """Tell the misfits of a form and a call of so many things by place and of these names."""
    firsts = first_numbers(names)
    doubled = [("doubled", number) for number, name in enumerate(names) if firsts[name] != number]
    return doubled + overs(form, many) + unwelcomes(form, many, firsts) + lackings(form, many, firsts)


def overs(form, many):
    """Tell the things by place for which there is neither a place nor a tail."""
    if form.tail() is not None:
        return []
    return [("over", number) for number in range(form.places(), many)]


def unwelcomes(form, many, firsts):
    """Tell the first things by their names that are barred, told again, or strange."""
    barred = set(form.bars())
    found = []
    for name, number in firsts.items():
        leads_to = form.number_of(name)
        if name in barred:
            found.append(("barred", number))
        elif leads_to is None:
            if form.bag() is None:
                found.append(("strange", number))
        elif leads_to < form.places() and leads_to < many:
            found.append(("again", number))
    return found


def lackings(form, many, firsts):
    """Tell the parameters that are not free and to which no thing goes."""
    found = []
    for number, parameter in enumerate(form.parameters()):
        if not parameter.free() and one_entry(parameter, number, many, firsts) == ("free",):
            found.append(("lacking", number))
    return found


def entry(form, number, many, firsts):
    """Tell the entry of the parameter of this number, for a call that fits."""
    if number == form.tail():
        return ("places", list(range(form.places(), many)))
    if number == form.bag():
        return ("names", [at for name, at in firsts.items() if form.number_of(name) is None])
    return one_entry(form.parameters()[number], number, many, firsts)


def one_entry(parameter, number, many, firsts):
    """Tell the entry of a seat, a both or a tag, of this number."""
    if parameter.by_place() and number < many:
        return ("place", number)
    if parameter.by_name() and parameter.name in firsts:
        return ("name", firsts[parameter.name])
    return ("free",)


def fewest_by_place(form, names):
    """Tell how many things by place it takes that no place lacks one, where boths of these names are told theirs."""
    parameters = form.parameters()
    for number in reversed(range(form.places())):
        parameter = parameters[number]
        if not parameter.free() and not (parameter.by_name() and parameter.name in names):
            return number + 1
    return 0


def first_both(form, names):
    """Tell the number of the first both that has one of these names, or None."""
    for number, parameter in enumerate(form.parameters()[:form.places()]):
        if parameter.by_name() and parameter.name in names:
            return number
    return None


def refuse_doubled(names):
    """Refuse by the first thing by name that has the name of an earlier one."""
    for number, name in enumerate(names):
        if name in names[:number]:
            raise Doubled(number)


def refuse(word, number):
    """Refuse by the class of a misfit's word."""
    if word == "doubled":
        raise Doubled(number)
    if word == "over":
        raise Over(number)
    if word == "barred":
        raise Barred(number)
    if word == "again":
        raise Again(number)
    if word == "strange":
        raise Strange(number)
    raise Lacking(number)
