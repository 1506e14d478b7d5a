"""The form of terms: their labels, kinds and parts, and whether any value is a term."""

from leastequal.checks import is_list, is_within
from leastequal.errors import BadTerm
from leastequal.spellings import called, is_name, is_spelling
from leastequal.walks import begun, bottom_up, ended
from leastequal.words import shape_of

GREATEST_NUMBER = 2147483647
MOST_PARTS = 6
LEAF_KINDS = {"number": "word", "name": "word", "flag": "truth", "true": "truth", "false": "truth"}


def is_number(value):
    """Whether any value is an integer that may stand in a term."""
    return is_within(value, -GREATEST_NUMBER, GREATEST_NUMBER)


def is_leaf(term):
    """Whether a term is a leaf."""
    return term[0] in LEAF_KINDS


def parts_of(term):
    """The parts of a term, in their order."""
    return () if term[0] in LEAF_KINDS else term[1:]


def kind_of(term):
    """Whether a term is a word or a truth: "word" or "truth"."""
    label = term[0]
    if label in LEAF_KINDS:
        return LEAF_KINDS[label]
    shape = shape_of(label)
    return "word" if shape is None else shape[0]


def term_of(value):
    """The term that any value is, in tuples alone; None for what is no term."""
    waiting = [(value, None)]
    while waiting:
        part, wanted = waiting.pop()
        form = _form_of(part)
        if form is None or wanted not in (None, form[0]):
            return None
        waiting.extend(list(zip(part[1:], form[1])))
    return bottom_up(value, parts_of, _in_tuples)


def _in_tuples(part, parts):
    return tuple(part) if is_leaf(part) else (part[0], *parts)


def _form_of(value):
    """What a value makes, and what its parts are, by its leaf or label alone; None if it cannot be a term."""
    if not is_list(value) or len(value) == 0 or not isinstance(value[0], str):
        return None
    label, many = value[0], len(value) - 1
    if label in LEAF_KINDS:
        return (LEAF_KINDS[label], ()) if _is_right_leaf(value) else None
    shape = shape_of(label)
    if shape is not None:
        return shape if many == len(shape[1]) else None
    call = called(label)
    if call is None:
        return None
    least, most = bounds_of(call[0])
    return ("word", ("word",) * many) if least <= many <= most else None


def _is_right_leaf(value):
    label = value[0]
    if label in ("true", "false"):
        return len(value) == 1
    if len(value) != 2:
        return False
    if label == "number":
        return is_number(value[1])
    return is_name(value[1]) if label == "name" else is_spelling(value[1])


def bounds_of(first):
    """The least and the most parts of a label that begins with this word, "call" or "loop"."""
    return (2, MOST_PARTS + 1) if first == "loop" else (0, MOST_PARTS)


def checked_term(value, part):
    """The term that a value is, in tuples alone: BadTerm(part) for what is no term."""
    term = term_of(value)
    if term is None:
        raise BadTerm(part)
    return term


def parts_as_begun(term):
    """A term and all parts in it, as their places ascend."""
    return begun(term, parts_of)


def parts_as_ended(term):
    """A term and all parts in it in the order in which they end."""
    return ended(term, parts_of)


def many_parts(term):
    """The size of a term."""
    return len(ended(term, parts_of))


def many_levels(term):
    """The levels of a term."""
    return bottom_up(term, parts_of, _levels)


def _levels(part, levels):
    return 1 + max(levels, default=0)


def spellings_in(term, leaf):
    """The spellings of the names or of the flags in a term, ascending."""
    return tuple(sorted({part[1] for part in parts_as_ended(term) if part[0] == leaf}))
