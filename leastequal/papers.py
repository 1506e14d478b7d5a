"""Papers, which tell an answer and what shows it, and denials, which say no."""

from leastequal.checks import is_list
from leastequal.walks import bottom_up


def fixed(value):
    """The value with each list in it as a tuple, all the way in through lists and tuples."""
    return bottom_up(value, _parts_of, _made_fixed)


def _parts_of(value):
    return value if is_list(value) else ()


def _made_fixed(value, parts):
    return tuple(parts) if is_list(value) else value


class Paper:
    """An answer: a word and parts. It is true."""

    def __init__(self, word, *parts):
        self.word = word
        self.parts = fixed(parts)

    def __eq__(self, other):
        return type(self) is type(other) and self.word == other.word and self.parts == other.parts

    def __bool__(self):
        return True


class Denial(Paper):
    """A paper that says no. It is false."""

    def __init__(self, word, *parts):
        Paper.__init__(self, word, *parts)

    def __eq__(self, other):
        return type(self) is type(other) and self.word == other.word and self.parts == other.parts

    def __bool__(self):
        return False
