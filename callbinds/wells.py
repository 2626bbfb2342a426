"""Wells: whole numbers, one behind the other."""


class Well:
    """Gives the first number, then each one greater by 1."""

    def __init__(self, first=1):
        self.coming = first

    def draw(self):
        """Give the next number."""
        given = self.coming
        self.coming += 1
        return given

    def ahead(self):
        """Tell the next number, and give nothing."""
        return self.coming
