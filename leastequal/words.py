"""Words of a width, and what the labels make of words and truths."""

from leastequal.checks import is_list, is_within
from leastequal.errors import BadNumber, BadTerm
from leastequal.spellings import shift_of

MOST_WIDTH = 300
SHAPES = {
    "add": ("word", ("word", "word")),
    "sub": ("word", ("word", "word")),
    "mul": ("word", ("word", "word")),
    "and": ("word", ("word", "word")),
    "or": ("word", ("word", "word")),
    "xor": ("word", ("word", "word")),
    "neg": ("word", ("word",)),
    "flip": ("word", ("word",)),
    "at": ("word", ("word",)),
    "if": ("word", ("truth", "word", "word")),
    "eq": ("truth", ("word", "word")),
    "lt": ("truth", ("word", "word")),
    "less": ("truth", ("word", "word")),
    "both": ("truth", ("truth", "truth")),
    "either": ("truth", ("truth", "truth")),
    "no": ("truth", ("truth",)),
}


def check_width(width):
    """Raises BadNumber for what is no width."""
    if not is_within(width, 1, MOST_WIDTH):
        raise BadNumber("width")


def mask_of(width):
    """The greatest word of a width: all its bits are 1."""
    return (1 << width) - 1


def word(number, width):
    """The rest of an integer modulo 2 to the power of the width."""
    if not is_within(number, None, None):
        raise BadNumber("number")
    check_width(width)
    return number & mask_of(width)


def signed(value, width):
    """The signed worth of a word."""
    check_width(width)
    if not is_within(value, 0, mask_of(width)):
        raise BadNumber("value")
    return value - (1 << width) if value >> (width - 1) else value


def shape_of(label):
    """What a label makes and what its parts are, "word" or "truth" each; None for any other value."""
    if not isinstance(label, str):
        return None
    if shift_of(label) is not None:
        return "word", ("word",)
    return SHAPES.get(label)


def worked(label, width, values):
    """What a label makes of the values of its parts."""
    shape = shape_of(label)
    if shape is None or label == "at":
        raise BadTerm("label")
    check_width(width)
    kinds = shape[1]
    if not is_list(values) or len(values) != len(kinds):
        raise BadNumber("values")
    if not all([_is_of(value, kind, width) for value, kind in zip(values, kinds)]):
        raise BadNumber("values")
    action, first = action_of(label)
    one, two, three = [*first, *values, 0, 0, 0][:3]
    return action(mask_of(width), one, two, three)


def _is_of(value, kind, width):
    """Whether a value is a truth, or a word of this width, as the kind tells."""
    return isinstance(value, bool) if kind == "truth" else is_within(value, 0, mask_of(width))


def action_of(label):
    """The function that works a label other than "at" out, and the numbers that it takes ahead of the parts.

    It takes the greatest word of the width, then just three values; it leaves aside what it does not need.
    """
    shift = shift_of(label)
    if shift is not None:
        return _shifted, (shift,)
    return ACTIONS[label], ()


def _added(mask, one, two, three):
    return (one + two) & mask


def _less_of(mask, one, two, three):
    return (one - two) & mask


def _times(mask, one, two, three):
    return (one * two) & mask


def _bits_in_both(mask, one, two, three):
    return one & two


def _bits_in_any(mask, one, two, three):
    return one | two


def _bits_in_one(mask, one, two, three):
    return one ^ two


def _negative(mask, one, two, three):
    return -one & mask


def _flipped(mask, one, two, three):
    return one ^ mask


def _shifted(mask, shift, one, three):
    return (one << shift) & mask


def _chosen(mask, test, one, two):
    return one if test else two


def _is_equal(mask, one, two, three):
    return one == two


def _is_below(mask, one, two, three):
    return one < two


def _is_less(mask, one, two, three):
    # With the top bit turned over, words stand in the order of their signed worths.
    top = mask ^ (mask >> 1)
    return one ^ top < two ^ top


def _are_both(mask, one, two, three):
    return one and two


def _is_either(mask, one, two, three):
    return one or two


def _is_not(mask, one, two, three):
    return not one


ACTIONS = {
    "add": _added,
    "sub": _less_of,
    "mul": _times,
    "and": _bits_in_both,
    "or": _bits_in_any,
    "xor": _bits_in_one,
    "neg": _negative,
    "flip": _flipped,
    "if": _chosen,
    "eq": _is_equal,
    "lt": _is_below,
    "less": _is_less,
    "both": _are_both,
    "either": _is_either,
    "no": _is_not,
}
