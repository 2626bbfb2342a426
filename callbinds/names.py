"""What a name is."""

LETTERS = "abcdefghijklmnopqrstuvwxyz"
LONGEST = 8


def is_name(thing):
    """Tell of anything whether it is a name."""
    if not isinstance(thing, str) or not 1 <= len(thing) <= LONGEST:
        return False
    return all([sign in LETTERS for sign in thing])
