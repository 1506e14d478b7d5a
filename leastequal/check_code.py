"""Whether code follows a program, and how many registers and cells both need."""

from leastequal.code import check_code
from leastequal.code_forms import code_kinds
from leastequal.deeds import deeds_within
from leastequal.program import check_program
from leastequal.registers import makes, need_of
from leastequal.row_forms import DEED_KINDS, numbers_in
from leastequal.traces import Trace


def follows(program, code):
    """Whether code follows a program."""
    check_program(program)
    check_code(code)
    if (program.least, program.rounds, program.inputs) != (code.least, code.rounds, code.inputs):
        return False
    if len(program.functions) != len(code.functions):
        return False
    if not all([_is_made_of(one, its, code.registers) for one, its in zip(program.functions, code.functions)]):
        return False
    walk = CodeWalk(code)
    return walk.follows_all(program.deeds) and walk.at == len(code.rows)


def _is_made_of(function, told, registers):
    """Whether a function of code has the name, the parameters and the results of a function."""
    name, parameters, blocks = told
    if function.name != name or function.parameters != parameters or len(function.results) != len(blocks):
        return False
    return all([makes(result, registers, block) for result, block in zip(function.results, blocks)])


class CodeWalk:
    """A way through the rows of code, along the deeds of a program."""

    def __init__(self, code):
        self.rows = code.rows
        self.registers = code.registers
        self.at = 0

    def passes(self, row):
        """Whether the next row is this one; goes behind it then."""
        if self.at == len(self.rows) or self.rows[self.at] != row:
            return False
        self.at += 1
        return True

    def passes_any(self, label):
        """The next row, if it has this label; goes behind it then. None if it has not."""
        if self.at == len(self.rows) or self.rows[self.at][0] != label:
            return None
        self.at += 1
        return self.rows[self.at - 1]

    def trace(self):
        """The Trace of the plain rows up to the next deed row, behind which it goes; None if they make no terms."""
        first = self.at
        while self.at < len(self.rows) and self.rows[self.at][0] not in DEED_KINDS:
            self.at += 1
        trace = Trace(self.registers)
        return trace if trace.has_done(self.rows[first:self.at]) else None

    def follows_all(self, deeds):
        """Whether the next rows follow deeds, behind which it goes then."""
        for deed in deeds:
            if not self.follows_one(deed):
                return False
        return True

    def follows_one(self, deed):
        """Whether the next rows follow a deed, behind which it goes then."""
        first = self.at
        if not self.passes(("spend",)):
            return False
        if deed[0] == "ask":
            return self.passes(deed)
        trace = self.trace()
        if trace is None:
            return False
        if deed[0] in ("when", "while"):
            return self.follows_test(deed, first, trace)
        row = self.passes_any("keep" if deed[0] == "set" else deed[0])
        if row is None:
            return False
        if deed[0] == "put":
            both = trace.holds_term(row[1], deed[1]) and trace.holds_term(row[2], deed[2])
            return both and row[1] != row[2]
        return row[1:-1] == deed[1:-1] and trace.holds_term(row[-1], deed[-1])

    def follows_test(self, deed, first, trace):
        """Whether the next rows follow a when or a while whose test is worked out from a row on, which has a number."""
        test = self.passes_any("unless")
        if test is None or not trace.holds_term(test[1], deed[1]) or not self.follows_all(deed[2]):
            return False
        turn = self.passes_any("go")
        if turn is None or test[2] != self.at:
            return False
        if deed[0] == "while":
            return turn[1] == first
        return self.follows_all(deed[3]) and turn[1] == self.at


def need_of_program(program):
    """The greatest need of registers of a term of a program."""
    check_program(program)
    needs = [need_of(result) for function in program.functions for result in function.results]
    for deed in deeds_within(program.deeds):
        if deed[0] == "put":
            needs.append(need_of(("add", deed[1], deed[2])))
        elif deed[0] != "ask":
            needs.append(need_of(deed[2] if deed[0] == "set" else deed[1]))
    return max(needs, default=1)


def registers_of(code):
    """How many registers the rows and blocks of code name."""
    return _most_named(code, ("to", "from"))


def cells_of(code):
    """How many cells the rows and blocks of code name."""
    return _most_named(code, ("cell",))


def _most_named(code, wanted):
    """One more than the greatest number of a wanted kind in rows and blocks, 0 if there is none."""
    check_code(code)
    blocks = [block for _, _, blocks in code.functions for block in blocks]
    rows = [row for some in [*blocks, code.rows] for row in some]
    return 1 + max([number for row in rows for number in numbers_in(row, code_kinds, wanted)], default=-1)
