"""Covers in a row, the outermost first, over forms and functions."""

from callbinds.calls import call_of, laid


class Covered:
    """A row of covers and a function behind them."""

    def __init__(self, covers, function):
        # A copy, so that nothing done later to the asker's list has a bearing on the answers.
        self.covers = list(covers)
        self.function = function

    def answer(self, call):
        """Tell the values of the function for the call that comes through, or refuse it."""
        return self.function.answer(through_all(self.covers, call))


def through_all(covers, call):
    """Tell the call that comes through all covers, or refuse it by the first one that does."""
    things, pairs = laid(call)
    handed = call_of(things, pairs)
    for cover in covers:
        handed = cover.through(handed)
    return handed


def over_all(covers, form):
    """Tell a form that takes just the calls that come through all covers and fit, or None."""
    told = form
    for cover in reversed(covers):
        told = cover.over(told)
        if told is None:
            return None
    return told
