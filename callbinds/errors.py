"""The refusals of the program: each one has a class of its own."""


class CallError(ValueError):
    """Any refusal."""


class NoName(CallError):
    """Something stands where a name should, and is none."""


class TooMany(CallError):
    """A form has more parameters or bars than it may have."""


class BadOrder(CallError):
    """A parameter stands where it may not stand; at is its number."""

    def __init__(self, at):
        self.at = at


class Twice(CallError):
    """A form has a name that may come once alone a second time."""

    def __init__(self, name):
        self.name = name


class NoChange(CallError):
    """A change would take out a thing that the call hasn't."""


class NoDefault(CallError):
    """The defaults are not those that a form needs; number tells which parameter."""

    def __init__(self, number):
        self.number = number


class NoText(CallError):
    """A text writes nothing of the kind that is read."""


class NoRow(CallError):
    """What a desk is told is no row."""


class Unknown(CallError):
    """A desk has nothing by a name, or not what is needed."""


class Misfit(CallError):
    """A call does not fit a form; number tells which thing or parameter."""

    def __init__(self, number):
        self.number = number


class Doubled(Misfit):
    """A thing by name has the name of an earlier one."""


class Over(Misfit):
    """There is neither a place nor a tail for a thing by place."""


class Barred(Misfit):
    """A thing by name has a name that is a bar."""


class Again(Misfit):
    """The both of a thing by name has a thing by place."""


class Strange(Misfit):
    """No parameter takes a thing by name."""


class Lacking(Misfit):
    """A parameter that is not free has no thing."""
