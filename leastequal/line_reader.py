"""Reading texts of several lines."""

from leastequal.checks import is_within
from leastequal.errors import BadText
from leastequal.spellings import integer_of, is_name
from leastequal.term_reader import Line


class LineReader:
    """The lines of a text, and the number of those that are read."""

    def __init__(self, lines):
        self.lines = lines
        self.number = 0

    def next_word(self):
        """The first item of the next line, None if there is no line."""
        return self.lines[self.number].split(" ")[0] if self.number < len(self.lines) else None

    def next_line(self, words):
        """The next line, which must begin with one of these words, its first item being read."""
        if self.number == len(self.lines):
            raise BadText(self.number, 0)
        line = Line(self.number, self.lines[self.number])
        if line.now() not in words:
            line.refuse()
        line.step()
        self.number += 1
        return line


def read_integer(line, least, most):
    """Reads an integer from a least to a most one."""
    item = line.now()
    number = None if item is None else integer_of(item)
    if not is_within(number, least, most):
        line.refuse()
    line.step()
    return number


def read_name(line):
    """Reads a name."""
    if not is_name(line.now()):
        line.refuse()
    name = line.now()
    line.step()
    return name


def read_names(line, most):
    """The names up to the end of the line, unlike ones and at most so many."""
    names = []
    while line.now() is not None:
        if line.now() in names or len(names) == most:
            line.refuse()
        names.append(read_name(line))
    return names
