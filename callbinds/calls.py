"""Calls: lists of items, laid out and told."""


def laid(call):
    """Lay a call out: the list of its things by place, and that of its pairs (name, thing)."""
    things = []
    pairs = []
    for item in call:
        word = item[0]
        if word == "one":
            things.append(item[1])
        elif word == "row":
            things.extend(item[1])
        elif word == "named":
            pairs.append((item[1], item[2]))
        else:
            pairs.extend(item[1])
    return (things, pairs)


def call_of(things, pairs):
    """Tell the call of ones and nameds alone that has these things by place and these pairs."""
    return [("one", thing) for thing in things] + [("named", name, thing) for name, thing in pairs]
