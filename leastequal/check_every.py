"""Looking at papers that tell whether a truth holds at every width."""

from leastequal.checks import are_pairs, is_within
from leastequal.every import Fails, Holds
from leastequal.forms import spellings_in, term_of
from leastequal.plain import plain_value
from leastequal.standings import standings_of
from leastequal.words import MOST_WIDTH, mask_of


def shows_holds(truth, least, value):
    """Whether a value is a right Holds of a truth."""
    standings = standings_of(truth, least)
    if not isinstance(value, Holds) or not _are_tables(standings, value.tables):
        return False
    found = [{standing: True for standing in table[1]} for table in value.tables]
    if not all([standings.start in some for some in found]):
        return False
    return all([_is_closed(standings, found, depth) for depth in range(standings.depth + 1)])


def _are_tables(standings, tables):
    """Whether a value has, for each guess, standings that ascend."""
    if not are_pairs(tables) or len(tables) != len(standings.guesses):
        return False
    for (guess, some), wanted in zip(tables, standings.guesses):
        if guess != wanted or not all([isinstance(truth, bool) for truth in guess]):
            return False
        if not isinstance(some, tuple) or not all([standings.is_standing(one) for one in some]):
            return False
        if not all([one < other for one, other in zip(some, some[1:])]):
            return False
    return True


def _is_closed(standings, found, depth):
    """Whether none of the standings of this depth is bad, and letters make of them standings that are told too."""
    batch = [(number, one) for number, some in enumerate(found) for one in some if one[0] == depth]
    if not batch:
        return True
    if standings.bad_in(batch):
        return False
    for (number, _), made in zip(batch, standings.behind(batch)):
        if not all([one in found[number] for one in made]):
            return False
    return True


def shows_fails(truth, least, value):
    """Whether a value is a right Fails of a truth."""
    standings_of(truth, least)
    if not isinstance(value, Fails) or not is_within(value.width, least, MOST_WIDTH):
        return False
    term = term_of(truth)
    if not _tell(value.names, spellings_in(term, "name")) or not _tell(value.flags, spellings_in(term, "flag")):
        return False
    most = mask_of(value.width)
    if not all([is_within(word, 0, most) for _, word in value.names]):
        return False
    if not all([isinstance(flag, bool) for _, flag in value.flags]) or not _is_memory(value.memory, most):
        return False
    return not plain_value(term, value.width, value.names, value.flags, value.memory)


def _tell(pairs, spellings):
    """Whether a value is pairs of just these spellings, in their order, and something else."""
    if not are_pairs(pairs) or not all([isinstance(pair[0], str) for pair in pairs]):
        return False
    return [pair[0] for pair in pairs] == list(spellings)


def _is_memory(pairs, most):
    """Whether a value is pairs of ascending addresses and words, none of them 0, all of them up to most."""
    if not are_pairs(pairs):
        return False
    if not all([is_within(address, 0, most) and is_within(word, 1, most) for address, word in pairs]):
        return False
    return all([one[0] < other[0] for one, other in zip(pairs, pairs[1:])])
