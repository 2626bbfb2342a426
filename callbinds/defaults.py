"""The four sorts of defaults: what comes to parameters that are left out."""


class Default:
    """What all four sorts are; only the four classes below are made."""


class Told(Default):
    """This number."""

    def __init__(self, number):
        self.number = number


class Once(Default):
    """A number that the well gives when the function is made."""


class Anew(Default):
    """A number that the well gives at each call at which it is needed."""


class Sum(Default):
    """Times the thing that the parameter number at has, and plus."""

    def __init__(self, at, times, plus):
        self.at = at
        self.times = times
        self.plus = plus
