"""Runs of programs, deed by deed."""

from leastequal.checks import are_integers, is_within
from leastequal.deeds import names_in_deeds
from leastequal.errors import BadInput, BadNumber
from leastequal.given import check_least, checked_words, memory_at
from leastequal.papers import fixed
from leastequal.program import check_program
from leastequal.sheets import Scene, Sheet
from leastequal.words import check_width

MOST_FUEL = 10000


class Run:
    """What a run of a program ends with."""

    def __init__(self, outcome, names, memory, told, turns):
        self.outcome = fixed(outcome)
        self.names = fixed(names)
        self.memory = fixed(memory)
        self.told = fixed(told)
        self.turns = fixed(turns)

    def __eq__(self, other):
        if not isinstance(other, Run) or self.outcome != other.outcome or self.names != other.names:
            return False
        return self.memory == other.memory and self.told == other.told and self.turns == other.turns


def run(program, width, inputs, memory, replies, fuel):
    """The Run of a program."""
    check_program(program)
    words = checked_memory(program, width, inputs, memory, replies, fuel)
    scene = Scene(program.functions, program.rounds, width, words)
    return Worker(program, scene, inputs, replies, fuel).run_of(program.deeds)


def checked_memory(program, width, inputs, memory, replies, fuel):
    """The memory at the start of a run of a program, or of code: raises what is wrong with what is given to it."""
    check_width(width)
    if not are_integers(inputs, None, None) or len(inputs) != len(program.inputs):
        raise BadInput("inputs")
    words = checked_words(memory, "memory")
    if not are_integers(replies, None, None):
        raise BadInput("replies")
    if not is_within(fuel, 0, MOST_FUEL):
        raise BadNumber("fuel")
    check_least(program, width)
    return memory_at(words, width)


def told_pairs(table):
    """The pairs of a dict, ascending."""
    return sorted([(key, worth) for key, worth in table.items()])


def told_memory(memory):
    """The pairs of an address and its word, ascending, for all words that are not 0."""
    return [pair for pair in told_pairs(memory) if pair[1] != 0]


class Worker:
    """A run that goes on: the names and their words, what was told, the replies and the fuel that are left."""

    def __init__(self, program, scene, inputs, replies, fuel):
        self.scene = scene
        self.names = sorted(set([*program.inputs, *names_in_deeds(program.deeds)]))
        self.given = [("name", name) for name in self.names]
        self.worths = [0] * len(self.names)
        for name, number in zip(program.inputs, inputs):
            self.worths[self.names.index(name)] = number & scene.mask
        self.told = []
        self.replies = [number & scene.mask for number in replies]
        self.many_asked = 0
        self.fuel = fuel
        self.spent = 0

    def run_of(self, deeds):
        """Does the deeds: the Run that comes of it."""
        outcome = "done" if self.do_all(self.ready(deeds)) else "short"
        names = [(name, worth) for name, worth in zip(self.names, self.worths)]
        return Run(outcome, names, told_memory(self.scene.memory), self.told, self.spent)

    def ready(self, deeds):
        """The deeds with sheets in the place of terms and numbers in the place of names."""
        return [self.ready_one(deed) for deed in deeds]

    def ready_one(self, deed):
        """One deed, made ready likewise."""
        word = deed[0]
        if word == "ask":
            return word, self.names.index(deed[1])
        if word == "set":
            return word, self.names.index(deed[1]), self.sheet([deed[2]])
        if word in ("when", "while"):
            return (word, self.sheet([deed[1]]), *[self.ready(inner) for inner in deed[2:]])
        return word, self.sheet(deed[1:])

    def sheet(self, terms):
        """The terms, made ready to be worked out for the words of the names."""
        return Sheet(self.given, terms, self.scene.mask)

    def work(self, sheet):
        """The values that these terms have now."""
        return sheet.work_out(self.worths, self.scene)

    def spend(self):
        """Spends 1 of the fuel: whether it was left."""
        if self.spent == self.fuel:
            return False
        self.spent += 1
        return True

    def do_all(self, deeds):
        """Does the deeds in order: whether the run goes on behind them."""
        for deed in deeds:
            if not self.do_one(deed):
                return False
        return True

    def do_one(self, deed):
        """Does one deed: whether the run goes on behind it."""
        if deed[0] == "while":
            return self.repeat(deed[1], deed[2])
        if not self.spend():
            return False
        if deed[0] == "when":
            return self.do_all(deed[2] if self.work(deed[1])[0] else deed[3])
        self.change(deed)
        return True

    def repeat(self, test, deeds):
        """Does the deeds as long as the test is true: whether the run goes on behind them."""
        while self.spend():
            if not self.work(test)[0]:
                return True
            if not self.do_all(deeds):
                return False
        return False

    def change(self, deed):
        """Does a deed that has none within it."""
        if deed[0] == "set":
            self.worths[deed[1]] = self.work(deed[2])[0]
        elif deed[0] == "put":
            address, worth = self.work(deed[1])
            self.scene.write(address, worth)
        elif deed[0] == "tell":
            self.told.append(self.work(deed[1])[0])
        else:
            self.worths[deed[1]] = self.reply()

    def reply(self):
        """The next reply, 0 if none is left."""
        if self.many_asked == len(self.replies):
            return 0
        self.many_asked += 1
        return self.replies[self.many_asked - 1]
