"""Single items of texts and labels: spellings, names, and integers in their one way of writing."""

from leastequal.checks import is_within

LETTERS = "abcdefghijklmnopqrstuvwxyz"
DIGITS = "0123456789"
NO_NAMES = ("true", "false")
RESULT_NUMBERS = ("0", "1", "2", "3", "4", "5")
# No integer of a text has more digits, and Python refuses to read very long ones.
MOST_DIGITS = 10


def is_spelling(value):
    """Whether any value is a spelling of a name or a flag."""
    if not isinstance(value, str) or not 1 <= len(value) <= 8 or value[0] not in LETTERS:
        return False
    return all([sign in LETTERS or sign in DIGITS for sign in value])


def is_name(value):
    """Whether any value is a name."""
    return is_spelling(value) and value not in NO_NAMES


def integer_of(item):
    """The integer that a string writes in its one way, with ten digits at most; None for any other string."""
    digits = item[1:] if item.startswith("-") else item
    if not 1 <= len(digits) <= MOST_DIGITS or not all([sign in DIGITS for sign in digits]):
        return None
    if digits.startswith("0") and item != "0":
        return None
    return int(item)


def shift_of(label):
    """The k of the label "shl k"; None for any other string."""
    if not label.startswith("shl "):
        return None
    many = integer_of(label[4:])
    return many if is_within(many, 1, 31) else None


def called(label):
    """The word, the function and the number of the result of a label of a call or a loop; None for other strings."""
    items = label.split(" ")
    if len(items) != 3 or items[0] not in ("call", "loop"):
        return None
    if not is_spelling(items[1]) or items[2] not in RESULT_NUMBERS:
        return None
    return items[0], items[1], int(items[2])
