"""The five sorts of parameters."""

from callbinds.errors import NoName
from callbinds.names import is_name

BY_PLACE = ("seat", "both")
BY_NAME = ("both", "tag")
OF_ONE_THING = ("seat", "both", "tag")


class Parameter:
    """What all five sorts have; only the five classes below are made."""

    def __init__(self, word, name, may_lack):
        if not is_name(name):
            raise NoName("the name of a parameter is none")
        self.word = word
        self.name = name
        # The method free has this word already, so the value bears another one.
        self.may_lack = may_lack

    def free(self):
        """Tell whether it may be left out."""
        return self.may_lack

    def by_place(self):
        """Tell whether it takes one thing by place."""
        return self.word in BY_PLACE

    def by_name(self):
        """Tell whether it takes one thing by its name."""
        return self.word in BY_NAME

    def takes_one(self):
        """Tell whether it takes one thing: a tail and a bag take all that are left over."""
        return self.word in OF_ONE_THING

    def told(self):
        """Tell it as a tuple."""
        if self.takes_one():
            return (self.word, self.name, self.may_lack)
        return (self.word, self.name)


class Seat(Parameter):
    """Takes one thing, by place alone."""

    def __init__(self, name, free=False):
        Parameter.__init__(self, "seat", name, free)


class Both(Parameter):
    """Takes one thing, by place or by name."""

    def __init__(self, name, free=False):
        Parameter.__init__(self, "both", name, free)


class Tail(Parameter):
    """Takes all things by place that are left over."""

    def __init__(self, name):
        Parameter.__init__(self, "tail", name, True)


class Tag(Parameter):
    """Takes one thing, by name alone."""

    def __init__(self, name, free=False):
        Parameter.__init__(self, "tag", name, free)


class Bag(Parameter):
    """Takes all things by name that are left over."""

    def __init__(self, name):
        Parameter.__init__(self, "bag", name, True)


def parameter_of(told):
    """Make the parameter that a tuple tells."""
    word = told[0]
    if word == "seat":
        return Seat(told[1], told[2])
    if word == "both":
        return Both(told[1], told[2])
    if word == "tail":
        return Tail(told[1])
    if word == "tag":
        return Tag(told[1], told[2])
    return Bag(told[1])
