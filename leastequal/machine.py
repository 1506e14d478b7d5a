"""Runs of code, row by row."""

from leastequal.code import check_code
from leastequal.code_frames import CodeFrame, Machine
from leastequal.row_forms import DEED_KINDS
from leastequal.runs import Run, checked_memory, told_memory, told_pairs


def run_code(code, width, inputs, memory, replies, fuel):
    """The Run of code."""
    check_code(code)
    words = checked_memory(code, width, inputs, memory, replies, fuel)
    return CodeRun(code, Machine(code, width, words), inputs, replies, fuel).run_of(code.rows)


class CodeRun:
    """A run of code that goes on: the frame of its rows, what was told, the replies and the fuel that are left."""

    def __init__(self, code, machine, inputs, replies, fuel):
        self.machine = machine
        names = {row[1]: 0 for row in code.rows if row[0] in ("keep", "ask")}
        for name, number in zip(code.inputs, inputs):
            names[name] = number & machine.mask
        self.frame = CodeFrame(machine, names)
        self.told = []
        self.replies = [number & machine.mask for number in replies]
        self.many_asked = 0
        self.fuel = fuel
        self.spent = 0

    def run_of(self, rows):
        """Works the rows: the Run that comes of it."""
        ready = [row if row[0] in DEED_KINDS else self.machine.ready(row) for row in rows]
        at = 0
        while at is not None and at < len(ready):
            at = self.next_behind(ready[at], at)
        outcome = "short" if at is None else "done"
        return Run(outcome, told_pairs(self.frame.names), told_memory(self.machine.memory), self.told, self.spent)

    def next_behind(self, row, at):
        """Works a row: the number of the next one, None if the fuel is too short."""
        word = row[0]
        if word == "spend":
            if self.spent == self.fuel:
                return None
            self.spent += 1
        elif word == "unless":
            return row[2] if self.frame.held[row[1]] == 0 else at + 1
        elif word == "go":
            return row[1]
        elif word in DEED_KINDS:
            self.change(row)
        else:
            self.frame.work(row)
        return at + 1

    def change(self, row):
        """Works a deed row that changes a name or the memory, or tells a word."""
        word, held = row[0], self.frame.held
        if word == "keep":
            self.frame.names[row[1]] = held[row[2]]
        elif word == "tell":
            self.told.append(held[row[1]])
        elif word == "put":
            self.machine.memory[held[row[1]]] = held[row[2]]
        else:
            self.frame.names[row[1]] = self.reply()

    def reply(self):
        """The next reply, 0 if none is left."""
        if self.many_asked == len(self.replies):
            return 0
        self.many_asked += 1
        return self.replies[self.many_asked - 1]
