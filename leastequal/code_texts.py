"""The texts of code."""

from leastequal.code_forms import block_kinds, code_kinds, may_lead, may_tell
from leastequal.errors import BadText
from leastequal.forms import GREATEST_NUMBER
from leastequal.line_reader import LineReader, read_integer, read_name, read_names
from leastequal.program import MOST_FUNCTIONS, MOST_LEAST, MOST_NAMES, MOST_RESULTS, MOST_ROUNDS
from leastequal.registers import MOST_REGISTERS
from leastequal.row_forms import MOST_CELL
from leastequal.spellings import DIGITS, MOST_DIGITS, RESULT_NUMBERS, is_name
from leastequal.stores import LEAST_REGISTERS
from leastequal.words import shape_of

# Labels of several items begin with these words.
LONG_WORDS = ("shl", "call", "loop")
# A number with more digits is beyond all rows, and Python refuses to read very long ones.
BEYOND = 10000000000


def code_lines(code):
    """The lines of the text of code."""
    lines = [f"least {code.least} rounds {code.rounds} registers {code.registers}", " ".join(["inputs", *code.inputs])]
    for name, parameters, blocks in code.functions:
        lines.append(" ".join(["function", name, *parameters]))
        for block in blocks:
            lines.append("block")
            lines.extend([_row_line(row) for row in block])
    lines.append("rows")
    lines.extend([_row_line(row) for row in code.rows])
    return lines


def _row_line(row):
    return " ".join([str(item) for item in row])


def read_code_parts(text):
    """What a Code is made of whose text this is, in the order of its parameters."""
    if not isinstance(text, str):
        raise BadText(0, 0)
    return CodeReader(text.split("\n")).read_whole()


class CodeReader(LineReader):
    """The lines of a text of code, and what is read of them."""

    def __init__(self, lines):
        LineReader.__init__(self, lines)
        self.functions = []
        self.registers = 0
        self.rows = []
        self.leads = []

    def read_whole(self):
        """Reads the whole."""
        line = self.next_line(("least",))
        least = read_integer(line, 1, MOST_LEAST)
        _read_word(line, "rounds")
        rounds = read_integer(line, 0, MOST_ROUNDS)
        _read_word(line, "registers")
        self.registers = read_integer(line, LEAST_REGISTERS, MOST_REGISTERS)
        line.finish()
        inputs = read_names(self.next_line(("inputs",)), MOST_NAMES)
        while self.next_word() == "function" and len(self.functions) < MOST_FUNCTIONS:
            self.functions.append(self.read_function())
        self.next_line(("rows",)).finish()
        while self.number < len(self.lines):
            self.rows.append(self.read_row(code_kinds))
        if any([number > len(self.rows) for number in self.leads]):
            raise BadText(len(self.lines) - 1, len(self.lines[-1].split(" ")) - 1)
        return least, rounds, self.registers, inputs, self.functions, self.rows

    def read_function(self):
        """Reads a function and its blocks."""
        line = self.next_line(("function",))
        name = line.now()
        if not is_name(name) or name in [function[0] for function in self.functions]:
            line.refuse()
        line.step()
        parameters = read_names(line, MOST_NAMES)
        # How many blocks there are tells which calls fit, so only functions that are read whole are called.
        blocks = [self.read_block()]
        while self.next_word() == "block" and len(blocks) < MOST_RESULTS:
            blocks.append(self.read_block())
        return name, parameters, blocks

    def read_block(self):
        """Reads a block."""
        self.next_line(("block",)).finish()
        rows = []
        while self.next_word() is not None and _begins_row(self.next_word(), block_kinds):
            rows.append(self.read_row(block_kinds))
        return rows

    def read_row(self, kinds_of):
        """Reads a row."""
        word = self.next_word()
        line = self.next_line((word,) if _begins_row(word, kinds_of) else ())
        label = word
        if word == "shl":
            label = f"shl {line.now()}"
            if shape_of(label) is None:
                line.refuse()
            line.step()
        elif word in LONG_WORDS:
            label = self.read_call(line, word)
        row = [label]
        for kind in kinds_of(label):
            row.append(self.read_item(line, kind))
        line.finish()
        return tuple(row)

    def read_call(self, line, word):
        """Reads the second and the third item of the label of a call or a loop."""
        found = [function for function in self.functions if function[0] == line.now()]
        if not found:
            line.refuse()
        line.step()
        number = line.now()
        if number not in RESULT_NUMBERS or not may_tell(found[0], word, int(number)):
            line.refuse()
        line.step()
        return f"{word} {found[0][0]} {number}"

    def read_item(self, line, kind):
        """Reads what stands in a row behind its label."""
        if kind == "name":
            return read_name(line)
        if kind == "number":
            return read_integer(line, -GREATEST_NUMBER, GREATEST_NUMBER)
        if kind == "row":
            return self.read_lead(line)
        return read_integer(line, 0, MOST_CELL if kind == "cell" else self.registers - 1)

    def read_lead(self, line):
        """Reads the number of a row."""
        number = _row_number(line.now())
        if number is None or not may_lead(self.rows, len(self.rows), number):
            line.refuse()
        line.step()
        self.leads.append(number)
        return number


def _begins_row(word, kinds_of):
    return word in LONG_WORDS or kinds_of(word) is not None


def _read_word(line, word):
    if line.now() != word:
        line.refuse()
    line.step()


def _row_number(item):
    """The number from 0 on that an item, None for none, writes in its one way; None if it writes none."""
    if item is None or item == "" or not all([sign in DIGITS for sign in item]):
        return None
    if item.startswith("0") and item != "0":
        return None
    return int(item) if len(item) <= MOST_DIGITS else BEYOND
