"""Code for a machine with registers."""

from leastequal.checks import is_within
from leastequal.code_forms import are_unlike_names, deed_rows_of, functions_of
from leastequal.code_texts import code_lines, read_code_parts
from leastequal.errors import BadCode, BadNumber
from leastequal.program import MOST_LEAST, MOST_ROUNDS
from leastequal.registers import MOST_REGISTERS
from leastequal.stores import LEAST_REGISTERS


class Code:
    """Code: a least width, rounds of loops, a number of registers, inputs, functions in blocks of rows, and rows."""

    def __init__(self, least, rounds, registers, inputs, functions, rows):
        if not is_within(least, 1, MOST_LEAST):
            raise BadNumber("least")
        if not is_within(rounds, 0, MOST_ROUNDS):
            raise BadNumber("rounds")
        if not is_within(registers, LEAST_REGISTERS, MOST_REGISTERS):
            raise BadNumber("registers")
        if not are_unlike_names(inputs):
            raise BadCode("inputs")
        made = functions_of(functions, registers)
        if made is None:
            raise BadCode("functions")
        ready = deed_rows_of(rows, registers, made)
        if ready is None:
            raise BadCode("rows")
        self.least = least
        self.rounds = rounds
        self.registers = registers
        self.inputs = tuple(inputs)
        self.functions = made
        self.rows = ready

    def __eq__(self, other):
        if not isinstance(other, Code) or self.least != other.least or self.rounds != other.rounds:
            return False
        if self.registers != other.registers or self.inputs != other.inputs:
            return False
        return self.functions == other.functions and self.rows == other.rows

    def __str__(self):
        return "\n".join(code_lines(self))

    @staticmethod
    def read(text):
        """The Code whose text this is."""
        least, rounds, registers, inputs, functions, rows = read_code_parts(text)
        return Code(least, rounds, registers, inputs, functions, rows)


def check_code(code):
    """Raises BadCode for what is no Code."""
    if not isinstance(code, Code):
        raise BadCode("code")
