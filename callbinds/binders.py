"""Binders: lists of moves made ahead for a form, and done on calls."""

from callbinds.errors import Again, Barred, Lacking, Over, Strange
from callbinds.fitting import refuse_doubled, shape


class Work:
    """A call on which moves are done: what of it is not used, and what came of the moves so far."""

    def __init__(self, parameter_count, many, names):
        self.entries = [None] * parameter_count
        self.unused_places = list(range(many))
        self.names = names
        self.unused_names = list(range(len(names)))
        self.doors = {}
        self.barred = {}


def binder(form):
    """Tell the binder of a form, which comes to the paper of each call or to its first misfit."""
    parameters = form.parameters()
    moves = place_moves(form)
    moves.extend([("bar", name) for name in form.bars()])
    moves.extend([("door", one.name, q) for q, one in enumerate(parameters) if one.by_name()])
    moves.append(("names",) if form.bag() is None else ("names", form.bag()))
    for q, one in enumerate(parameters):
        if one.takes_one():
            moves.append(("free", q) if one.free() else ("need", q))
    return (len(parameters), moves)


def place_moves(form):
    """Tell the moves for the things by place."""
    moves = [("take", q) for q in range(form.places())]
    moves.append(("end",) if form.tail() is None else ("gather", form.tail()))
    return moves


def do_take(work, move):
    """Give the first thing by place that is not used to q."""
    q = move[1]
    if work.entries[q] is None and work.unused_places:
        work.entries[q] = ("place", work.unused_places.pop(0))


def do_gather(work, move):
    """Give all things by place that are not used to q."""
    q = move[1]
    if work.entries[q] is None:
        work.entries[q] = ("places", work.unused_places)
        work.unused_places = []


def do_end(work, move):
    """Refuse a thing by place that is not used."""
    if work.unused_places:
        raise Over(work.unused_places[0])


def do_door(work, move):
    """Lead the name to q."""
    work.doors[move[1]] = move[2]


def do_bar(work, move):
    """Bar the name."""
    work.barred[move[1]] = True


def do_names(work, move):
    """Lead all things by name that are not used to their parameters, or gather them in q, where there is one."""
    q = move[1] if len(move) > 1 else None
    gathered = []
    for number in work.unused_names:
        name = work.names[number]
        if name in work.barred:
            raise Barred(number)
        if name in work.doors:
            lead(work, work.doors[name], number)
        elif q is not None and (work.entries[q] is None or gathered):
            gathered.append(number)
            work.entries[q] = ("names", gathered)
        else:
            raise Strange(number)
    work.unused_names = []
    if q is not None and work.entries[q] is None:
        work.entries[q] = ("names", [])


def lead(work, q, number):
    """Give the thing by name to q, or refuse it where this has an entry."""
    if work.entries[q] is not None:
        raise Again(number)
    work.entries[q] = ("name", number)


def do_need(work, move):
    """Refuse q where it has no entry."""
    q = move[1]
    if work.entries[q] is None:
        raise Lacking(q)


def do_free(work, move):
    """Tell of q that it is left out, where it has no entry."""
    q = move[1]
    if work.entries[q] is None:
        work.entries[q] = ("free",)


DEEDS = {
    "take": do_take, "gather": do_gather, "end": do_end, "door": do_door, "bar": do_bar, "names": do_names,
    "need": do_need, "free": do_free,
}


def bound(binder, call):
    """Do a binder on a call: tell the entries, or refuse by a misfit."""
    parameter_count, moves = binder
    many, names = shape(call)
    refuse_doubled(names)
    work = Work(parameter_count, many, names)
    for move in moves:
        deed = DEEDS[move[0]]
        deed(work, move)
    return work.entries
