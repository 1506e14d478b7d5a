"""Parts at places of terms."""

from leastequal.forms import parts_of


def parts_on(term, place):
    """The parts on the way from a term to the one at a place, both ends among them; None if there is no such place."""
    passed = [term]
    for index in place:
        parts = parts_of(passed[-1])
        if index >= len(parts):
            return None
        passed.append(parts[index])
    return passed


def exchanged(passed, place, other):
    """The term with another one at a place, passed being the parts on the way to it."""
    made = other
    for part, index in zip(passed[-2::-1], place[::-1]):
        made = (*part[:index + 1], made, *part[index + 2:])
    return made
