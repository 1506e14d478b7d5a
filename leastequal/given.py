"""What callers give to work terms out with: words and truths for spellings, and memories."""

from leastequal.checks import is_integer, pairs_of
from leastequal.errors import BadInput, Misfit
from leastequal.words import mask_of


def checked_words(value, part):
    """A dict of integers by key: BadInput(part) for what tells none."""
    pairs = pairs_of(value)
    if pairs is None or not all([is_integer(pair[1]) for pair in pairs]):
        raise BadInput(part)
    return {key: number for key, number in pairs}


def checked_truths(value, part):
    """A dict of truths by key: BadInput(part) for what tells none."""
    pairs = pairs_of(value)
    if pairs is None or not all([isinstance(pair[1], bool) for pair in pairs]):
        raise BadInput(part)
    return {key: truth for key, truth in pairs}


def checked_values(value, part):
    """The words and the truths of a list of pairs or a dict, as a dict by leaf: BadInput(part) for what tells none."""
    pairs = pairs_of(value)
    if pairs is None or not all([is_integer(pair[1]) or isinstance(pair[1], bool) for pair in pairs]):
        raise BadInput(part)
    return {("flag" if isinstance(worth, bool) else "name", key): worth for key, worth in pairs}


def memory_at(words, width):
    """The memory that a dict of integers tells at a width: what is at no address of it is left aside."""
    mask = mask_of(width)
    addresses = [key for key in words if is_integer(key) and 0 <= key <= mask]
    return {address: words[address] & mask for address in addresses}


def check_least(program, width):
    """Raises Misfit for a width below the least one of a program."""
    if width < program.least:
        raise Misfit("width")
