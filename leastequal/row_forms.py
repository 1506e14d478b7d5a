"""The forms of the rows of code: what stands in them behind their labels."""

from leastequal.checks import is_list, is_within
from leastequal.forms import is_number
from leastequal.spellings import called, is_name, is_spelling
from leastequal.words import shape_of

MOST_CELL = 999
# "to" and "from" are registers, "row" is the number of a row.
PLAIN_KINDS = {
    "name": ("to", "name"),
    "number": ("to", "number"),
    "flag": ("to", "flag"),
    "true": ("to",),
    "false": ("to",),
    "open": (),
    "hand": ("from",),
    "store": ("cell", "from"),
    "load": ("to", "cell"),
}
DEED_KINDS = {
    "spend": (),
    "keep": ("name", "from"),
    "ask": ("name",),
    "tell": ("from",),
    "put": ("from", "from"),
    "unless": ("from", "row"),
    "go": ("row",),
}


def plain_kinds(label):
    """What stands behind the label of a plain row; None for what is no such label."""
    if label in PLAIN_KINDS:
        return PLAIN_KINDS[label]
    shape = shape_of(label)
    if shape is not None:
        return ("to", *["from" for _ in shape[1]])
    return None if called(label) is None else ("to",)


def deed_kinds(label):
    """What stands behind the label of a deed row; None for what is no such label."""
    return DEED_KINDS.get(label)


def row_of(value, kinds_of, registers):
    """The row that any value is, a tuple, by the kinds that its label has; None for any other value."""
    if not is_list(value) or len(value) == 0 or not isinstance(value[0], str):
        return None
    kinds = kinds_of(value[0])
    if kinds is None or len(value) != 1 + len(kinds):
        return None
    fits = [is_in_row(one, kind, registers) for one, kind in zip(value[1:], kinds)]
    return tuple(value) if all(fits) else None


def is_in_row(value, kind, registers):
    """Whether a value may stand in a row as what is of this kind, there being so many registers."""
    if kind in ("to", "from"):
        return is_within(value, 0, registers - 1)
    if kind == "cell":
        return is_within(value, 0, MOST_CELL)
    if kind == "row":
        return is_within(value, 0, None)
    if kind == "number":
        return is_number(value)
    return is_name(value) if kind == "name" else is_spelling(value)


def numbers_in(row, kinds_of, wanted):
    """The numbers in a row that are of one of the wanted kinds."""
    return [one for one, kind in zip(row[1:], kinds_of(row[0])) if kind in wanted]
