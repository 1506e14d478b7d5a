"""Plain rows of code, worked with words."""

from leastequal.row_forms import numbers_in, plain_kinds
from leastequal.spellings import called
from leastequal.words import action_of, mask_of, shape_of


class Machine:
    """Where rows are worked: functions, rounds of loops, how many registers there are, a width, and a memory.

    functions has by name the parameters and the blocks of a function, the rows being made ready.
    """

    def __init__(self, code, width, memory):
        self.rounds = code.rounds
        self.registers = code.registers
        self.mask = mask_of(width)
        self.memory = memory
        self.functions = {}
        for name, parameters, blocks in code.functions:
            self.functions[name] = (parameters, [[self.ready(row) for row in block] for block in blocks])

    def ready(self, row):
        """A plain row made ready: a word, the register to and the registers from, and what else it has.

        For a label that makes something these are its action, the numbers that it takes first, and what it makes.
        """
        label = row[0]
        if label == "number":
            return "is", row[1], row[2] & self.mask
        if label in ("true", "false"):
            return "is", row[1], 1 if label == "true" else 0
        call = called(label)
        if call is not None:
            return call[0], row[1], call[1], call[2]
        shape = shape_of(label)
        if shape is None or label == "at":
            return row
        action, numbers = action_of(label)
        return "make", row[1], numbers_in(row, plain_kinds, ("from",)), action, numbers, shape[0]

    def called_block(self, name, number, words):
        """The word that a block of a function tells for the words of a list."""
        parameters, blocks = self.functions[name]
        return self.work_block(blocks[number], parameters, _as_many(words, len(parameters)))

    def looped_state(self, name, words):
        """The last state of a loop, from the words of a list, the first of which is the count."""
        parameters, blocks = self.functions[name]
        state = _as_many(words[1:], len(parameters))
        for _ in range(min(words[0] if words else 0, self.rounds)):
            made = [self.work_block(block, parameters, state) for block in blocks]
            if made == state:
                break
            state = made
        return state

    def work_block(self, rows, parameters, words):
        """Works a block in a new frame: the word in its register 0 at the end."""
        frame = CodeFrame(self, {name: worth for name, worth in zip(parameters, words)})
        for row in rows:
            frame.work(row)
        return frame.held[0]


def _as_many(words, many):
    """So many of the words, 0 for those that are missing."""
    return [*words, *[0] * many][:many]


class CodeFrame:
    """Registers, cells, and lists that are not called yet, with the words of the names."""

    def __init__(self, machine, names):
        self.machine = machine
        self.names = names
        self.held = [0] * machine.registers
        self.cells = {}
        self.lists = []

    def work(self, row):
        """Works a plain row that was made ready."""
        word = row[0]
        if word == "make":
            self.held[row[1]] = self.made_by(row)
        elif word == "is":
            self.held[row[1]] = row[2]
        elif word == "name":
            self.held[row[1]] = self.names.get(row[2], 0)
        elif word == "at":
            self.held[row[1]] = self.machine.memory.get(self.held[row[2]], 0)
        elif word == "open":
            self.lists.append([])
        elif word == "hand":
            if self.lists:
                self.lists[-1].append(self.held[row[1]])
        elif word == "store":
            self.cells[row[1]] = self.held[row[2]]
        elif word == "load":
            self.held[row[1]] = self.cells.get(row[2], 0)
        else:
            self.held[row[1]] = self.told_by(row)

    def made_by(self, row):
        """What a label makes of the words in registers; a truth is 1 or 0."""
        _, _, froms, action, numbers, kind = row
        one, two, three = [*numbers, *[self.held[place] for place in froms], 0, 0, 0][:3]
        made = action(self.machine.mask, one, two, three)
        if kind == "truth":
            return 1 if made else 0
        return made

    def told_by(self, row):
        """What a call or a loop makes of the last list."""
        first, _, name, number = row
        words = self.lists.pop() if self.lists else []
        if first == "call":
            return self.machine.called_block(name, number, words)
        return self.machine.looped_state(name, words)[number]
