"""The form of code: whether values are its functions and its rows."""

from leastequal.checks import first_twice, is_list
from leastequal.program import MOST_FUNCTIONS, MOST_NAMES, MOST_RESULTS
from leastequal.row_forms import deed_kinds, numbers_in, plain_kinds, row_of
from leastequal.spellings import called, is_name


def block_kinds(label):
    """What stands behind the label of a row of a block; None for what is no such label."""
    return None if label == "flag" else plain_kinds(label)


def code_kinds(label):
    """What stands behind the label of any row of code; None for what is no such label."""
    kinds = deed_kinds(label)
    return block_kinds(label) if kinds is None else kinds


def are_unlike_names(value):
    """Whether a value is a list of unlike names, so few that they may be inputs or parameters."""
    if not is_list(value) or len(value) > MOST_NAMES or not all([is_name(one) for one in value]):
        return False
    return first_twice(value) is None


def functions_of(value, registers):
    """The functions of code that any value is, in tuples alone; None for any other value."""
    if not is_list(value) or len(value) > MOST_FUNCTIONS:
        return None
    made = []
    for one in value:
        function = _function_of(one, made, registers)
        if function is None:
            return None
        made.append(function)
    return tuple(made)


def _function_of(value, ahead, registers):
    if not is_list(value) or len(value) != 3:
        return None
    name, parameters, blocks = value
    if not is_name(name) or name in [function[0] for function in ahead] or not are_unlike_names(parameters):
        return None
    if not is_list(blocks) or not 1 <= len(blocks) <= MOST_RESULTS:
        return None
    made = [rows_in(block, block_kinds, registers, ahead) for block in blocks]
    return None if None in made else (name, tuple(parameters), tuple(made))


def rows_in(value, kinds_of, registers, functions):
    """The rows that any value is, in tuples alone, which call and loop these functions; None for any other value."""
    if not is_list(value):
        return None
    made = [row_of(one, kinds_of, registers) for one in value]
    return None if None in made or not all([_is_told(row[0], functions) for row in made]) else tuple(made)


def _is_told(label, functions):
    """Whether a label is no call and no loop, or one of a block of these functions."""
    call = called(label)
    if call is None:
        return True
    found = [function for function in functions if function[0] == call[1]]
    return bool(found) and may_tell(found[0], call[0], call[2])


def may_tell(function, first, number):
    """Whether a function has the block of this number, and is called or looped as the first word tells."""
    if first == "loop" and len(function[2]) != len(function[1]):
        return False
    return number < len(function[2])


def deed_rows_of(value, registers, functions):
    """The rows of the deeds of code that any value is, in tuples alone; None for any other value."""
    rows = rows_in(value, code_kinds, registers, functions)
    if rows is None:
        return None
    for index, row in enumerate(rows):
        for number in numbers_in(row, code_kinds, ("row",)):
            if not may_lead(rows, index, number) or number > len(rows):
                return None
    return rows


def may_lead(rows, index, number):
    """Whether the row at an index may lead to the one of this number, as far as it does not stand behind."""
    return number > index or (number < index and rows[number] == ("spend",))
