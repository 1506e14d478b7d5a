"""Looking at papers that tell whether two terms, or the two sides of a rule, are equal."""

from leastequal.check_every import shows_fails, shows_holds
from leastequal.checks import are_pairs, is_integer, is_within
from leastequal.forms import parts_of, spellings_in
from leastequal.plain_forms import plain_form_of
from leastequal.polynomials import parting, polynomial
from leastequal.rules import NotTaken, Taken, Unsure, are_unlike, check_rule, checked_sides, has_calls, told_by
from leastequal.spellings import shift_of
from leastequal.standings import standings_of
from leastequal.sums import is_sum
from leastequal.walks import bottom_up
from leastequal.words import MOST_WIDTH


def shows_judged(left, right, least, value):
    """Whether a value is a right paper about whether two terms are equal from a least width on."""
    one, other = checked_sides(left, right, least)
    if is_sum(one) and is_sum(other):
        return _shows_of_sums(one, other, least, value)
    truth = plain_form_of(one, other)[0]
    standings_of(truth, least)
    if isinstance(value, Taken):
        return _is(value.way, "plain") and shows_holds(truth, least, value.paper)
    if isinstance(value, Unsure):
        return shows_fails(truth, least, value.paper) and _leaves_open(one, other, value.paper)
    if not isinstance(value, NotTaken) or has_calls(one) or has_calls(other):
        return False
    if not is_within(value.width, least, MOST_WIDTH) or not _is_told(one, other, value):
        return False
    return are_unlike(one, other, value.width, told_by(value, one, other), value.memory)


def shows_taken(rule, least, value):
    """Whether a value is a right paper about whether a rule holds from a least width on."""
    check_rule(rule)
    return shows_judged(rule.left, rule.right, least, value)


def _is(value, string):
    return isinstance(value, str) and value == string


def _leaves_open(one, other, fails):
    """Whether nothing follows for two terms from a right Fails of their plain form."""
    if has_calls(one) or has_calls(other):
        return True
    return not are_unlike(one, other, fails.width, told_by(fails, one, other), fails.memory)


def _shows_of_sums(one, other, least, value):
    """Whether a value is a right paper about two sum terms."""
    parts = parting(one, other, least)
    if isinstance(value, Taken):
        return parts is None and _is(value.way, "sums") and _is_polynomial(value.paper, polynomial(one))
    if not isinstance(value, NotTaken) or not is_within(value.width, least, None) or not _is_told(one, other, value):
        return False
    words = {spelling: word for spelling, word in value.names}
    difference = _integer_of(one, words) - _integer_of(other, words)
    # The width may be far too great to count as far as 2 to the power of it.
    return difference != 0 and (difference & -difference).bit_length() <= value.width


def _is_polynomial(value, wanted):
    """Whether a value is a polynomial, of integers and no truths in their place."""
    if not are_pairs(value) or len(value) != len(wanted):
        return False
    for (product, many), (its, times) in zip(value, wanted):
        if product != its or not is_integer(many) or many != times:
            return False
    return True


def _is_told(one, other, value):
    """Whether a NotTaken tells words for just the names, truths for just the flags, and a memory."""
    width = value.width
    for kind, pairs in (("name", value.names), ("flag", value.flags)):
        spellings = sorted(set(spellings_in(one, kind) + spellings_in(other, kind)))
        if not are_pairs(pairs) or [pair[0] for pair in pairs] != spellings:
            return False
    if not all([_is_word(word, width) for _, word in value.names]):
        return False
    return all([isinstance(truth, bool) for _, truth in value.flags]) and _is_memory(value.memory, width)


def _is_memory(pairs, width):
    if not are_pairs(pairs) or not all([_is_word(part, width) for pair in pairs for part in pair]):
        return False
    return all([one[0] < other[0] for one, other in zip(pairs, pairs[1:])])


def _is_word(value, width):
    return is_within(value, 0, None) and value.bit_length() <= width


def _integer_of(term, words):
    """What a sum term makes of integers for its names."""
    def made(part, inner):
        if not inner:
            return part[1] if part[0] == "number" else words[part[1]]
        return _integer_made(part[0], inner)

    return bottom_up(term, parts_of, made)


def _integer_made(label, inner):
    if label == "add":
        return inner[0] + inner[1]
    if label == "sub":
        return inner[0] - inner[1]
    if label == "mul":
        return inner[0] * inner[1]
    return -inner[0] if label == "neg" else inner[0] << shift_of(label)
