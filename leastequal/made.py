"""Code that is made of a program."""

from leastequal.code import Code
from leastequal.program import check_program
from leastequal.registers import check_many
from leastequal.stores import LEAST_REGISTERS, rows_for


def made(program, many):
    """Code with so many registers that follows a program, with as few stores as can be."""
    check_program(program)
    check_many(many, LEAST_REGISTERS)
    functions = []
    for function in program.functions:
        blocks = [rows_for(result, many) for result in function.results]
        functions.append((function.name, function.parameters, blocks))
    rows = _rows_of_all(program.deeds, 0, many)
    return Code(program.least, program.rounds, many, program.inputs, functions, rows)


def _rows_of_all(deeds, first, many):
    """The rows of deeds, the first one of which has this number."""
    rows = []
    for deed in deeds:
        rows.extend(_rows_of_one(deed, first + len(rows), many))
    return rows


def _rows_of_one(deed, first, many):
    word = deed[0]
    if word == "ask":
        return [("spend",), ("ask", deed[1])]
    if word == "set":
        return [("spend",), *rows_for(deed[2], many), ("keep", deed[1], 0)]
    if word == "tell":
        return [("spend",), *rows_for(deed[1], many), ("tell", 0)]
    if word == "put":
        # The row add would come last, and finds the address and the term where they are left.
        *rows, last = rows_for(("add", deed[1], deed[2]), many)
        return [("spend",), *rows, ("put", last[2], last[3])]
    head = [("spend",), *rows_for(deed[1], many)]
    inner = _rows_of_all(deed[2], first + len(head) + 1, many)
    behind = first + len(head) + len(inner) + 2
    if word == "while":
        return [*head, ("unless", 0, behind), *inner, ("go", first)]
    others = _rows_of_all(deed[3], behind, many)
    return [*head, ("unless", 0, behind), *inner, ("go", behind + len(others)), *others]
