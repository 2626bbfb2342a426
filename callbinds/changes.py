"""Changes of a call."""

from callbinds.calls import call_of, laid
from callbinds.errors import NoChange


def changed(call, change):
    """Tell the call behind a change, of ones and nameds alone, or refuse with NoChange."""
    things, pairs = laid(call)
    word = change[0]
    if word == "less":
        if not things:
            raise NoChange("there is no thing by place that could go")
        things.pop()
    elif word == "more":
        things.append(0)
    elif word == "out":
        number = last_number(pairs, change[1])
        del pairs[number]
    else:
        pairs.append((change[1], 0))
    return call_of(things, pairs)


def last_number(pairs, name):
    """Tell the number of the last pair of this name, or refuse with NoChange."""
    for number in reversed(range(len(pairs))):
        if pairs[number][0] == name:
            return number
    raise NoChange("there is no thing by this name that could go")
