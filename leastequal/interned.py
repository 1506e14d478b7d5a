"""Numbers for terms, so that equal terms are found without comparing them part by part."""

from leastequal.forms import parts_of
from leastequal.walks import bottom_up


class Interned:
    """The terms that were numbered, and all their parts, each once."""

    def __init__(self):
        self.numbers = {}
        # By number: the label and the numbers of the parts, none for what has no parts.
        self.rows = []

    def number_of(self, term):
        """The number of a term, a new one if it has none yet; its parts are numbered ahead of it."""
        return bottom_up(term, parts_of, self.number_made)

    def number_made(self, part, inner):
        """The number of a part whose own parts have these numbers."""
        row = (part[0], *inner) if inner else part
        if row not in self.numbers:
            self.numbers[row] = len(self.rows)
            self.rows.append((part[0], tuple(inner)))
        return self.numbers[row]

    def known(self, term):
        """The number of a term, None if it has none."""
        return bottom_up(term, parts_of, self.number_known)

    def number_known(self, part, inner):
        """The number of a part, None if it or one of its own parts has none."""
        return None if None in inner else self.numbers.get((part[0], *inner) if inner else part)
