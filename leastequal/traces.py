"""Plain rows worked with terms in the place of words."""

from leastequal.checks import is_list
from leastequal.forms import is_leaf
from leastequal.interned import Interned
from leastequal.row_forms import plain_kinds, row_of
from leastequal.spellings import called


class Trace:
    """Registers, cells and lists that hold terms, told by numbers; what a row takes, it takes away.

    held has by register a term and the number of the row by which it came there; a list is the number of the row that
    began it, and its terms.
    """

    def __init__(self, registers):
        self.registers = registers
        self.interned = Interned()
        self.held = {}
        self.cells = {}
        self.lists = []
        self.row_number = 0

    def has_done(self, rows):
        """Works rows, any value: whether they are plain rows, each finds what it takes, and no list is left."""
        if not is_list(rows):
            return False
        for value in rows:
            row = row_of(value, plain_kinds, self.registers)
            if row is None or not self.has_worked(row):
                return False
            self.row_number += 1
        return not self.lists

    def holds_term(self, place, term):
        """Whether a register holds a term."""
        return place in self.held and self.held[place][0] == self.interned.number_of(term)

    def has_worked(self, row):
        """Works a row: whether it finds what it takes."""
        label = row[0]
        if is_leaf(row):
            return self.has_brought(row[1], self.interned.number_of((label, *row[2:])))
        if label == "open":
            self.lists.append((self.row_number, []))
            return True
        if label == "hand":
            return bool(self.lists) and self.has_handed(row[1])
        if label == "store":
            self.cells[row[1]] = self.taken_from(row[2])
            return self.cells[row[1]] is not None
        if label == "load":
            return self.has_brought(row[1], self.cells.pop(row[2], None))
        if called(label) is not None:
            return bool(self.lists) and self.has_called(row)
        return self.has_made(label, row[1], [self.taken_from(one) for one in row[2:]])

    def taken_from(self, place):
        """Takes what a register holds: its term, None if it holds none that may be taken."""
        if place not in self.held or not self.came_in_list(place):
            return None
        return self.held.pop(place)[0]

    def came_in_list(self, place):
        """Whether what a register holds came there since the last list that is left was begun."""
        return not self.lists or self.held[place][1] > self.lists[-1][0]

    def has_brought(self, place, term):
        """Brings a term into a register: whether there is one."""
        if term is None:
            return False
        self.held[place] = (term, self.row_number)
        return True

    def has_made(self, label, place, inner):
        """Brings what a label makes of terms into a register: whether all of them are there."""
        return None not in inner and self.has_brought(place, self.interned.number_made((label,), inner))

    def has_handed(self, place):
        """Puts what a register holds behind the terms of the last list: whether it holds one."""
        self.lists[-1][1].append(self.taken_from(place))
        return self.lists[-1][1][-1] is not None

    def has_called(self, row):
        """Ends the last list by a call or a loop: whether nothing is left in registers that came there since."""
        if any([self.came_in_list(place) for place in self.held]):
            return False
        return self.has_made(row[0], row[1], self.lists.pop()[1])
